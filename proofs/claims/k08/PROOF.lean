import PyProof.Rows.All
import Wide.All
import OpenK.AllK
import Wide.FinOn
import HandS.ExcInit
import HandS.Nested
import KE.KExcSuper
import HandS.ForExc
import PyProof.Rows.SortShellAny
import HandS.SetTxt0
import HandS.TupSets
import HandS.ForMost
import HandS.Walk
import HandS.IsInst
import HandS.IterVal
import HandS.Star
import HandS.Deep
import HandS.DictComp
import HandS.Zip
import HandS.ExcField
import HandS.ExcIs
import KE.KExcIs
import HandS.WordsExc
import HandS.FStr
import HandS.Defaults
import HandS.CallSlots
import HandS.Wide
import HandS.Style
import HandS.OwnEq
import HandS.Property
import OpenK.KMeth
import OpenK.KOps
import KE.KOpsOwn
import KE.KOwnIter
import KE.KDictPairs
import HandS.Gcd
import HandS.ClsMeth
import HandS.TupMul
import HandS.SetFor
import HandS.TupAny
import KE.DataFind
import HandS.TryMany
import HandS.OwnIter
import HandS.Iter
import HandS.Comp
import HandS.Dict
import KE.KDictKeyed
import KE.SortData
import KE.KeyNested
import PyProof.SetRoads
import HandS.ExcValue
import HandS.ExcOwn
import PyProof.TupleOfSeq
import HandS.CallRecv
import PySem.Challenge.RW_shadowlinks_k08_clauses_and_cuts
set_option Elab.async false
set_option linter.all false
set_option maxRecDepth 100000
/-! An own exception's __init__ that begins with super().__init__(e), over ValueError. -/
namespace Sup
open PySem PySem.Spec PyProof.Rows L2 NdefX
abbrev vei : String := "ValueError.__init__"
def mwO (u a : Addr) : HO := .ext fun h => h.get? u = some (PySem.W.kxs_mw vei a)
theorem mwO_ok {P : Program} {w : World} {H : Hp} {h : Heap} {u a : Addr} (e : h.get? u = some (PySem.W.kxs_mw vei a)) : ObjOk P w H h u (mwO u a) := ⟨e, ⟨_, e⟩, fun h1 h2 z k => k _ z⟩
theorem mwO_at {P : Program} {w : World} {H : Hp} {h : Heap} {u a : Addr} (hok : HOk P w H h) (e : H u = some (mwO u a)) : h.get? u = some (PySem.W.kxs_mw vei a) := by
  have x : ObjOk P w H h u (.ext fun h => h.get? u = some (PySem.W.kxs_mw vei a)) := hok u _ e
  exact x.1
/-- what the written part says of a def that says super() -/
structure SupF (P : Program) (K : PySem.W.Frag) (mg : Str → Option Value) (env : Env) (sn : Str) (D : Addr) : Prop where
  ks : env.kindOf "super" = some .globalImplicit
  kc : env.kindOf "__class__" = some .free
  fn : ∃ (f : Addr) (oc : Value) (od : Option Addr) (fd : FuncData) (osl : Array (Option Value)) (ar : Arg), env.func = some f ∧ K.lookup f = some ⟨oc, od, .func fd, osl⟩ ∧ (fd.params.posonlyargs ++ fd.params.args).head? = some ar ∧ ar.arg = sn
  co : ∃ (cda : Addr) (ccl : Value) (cdd : Option Addr) (vs : Array Value) (ccs : Array (Option Value)) (file : Str) (tf : Tok), env.code = .ref cda ∧ K.lookup cda = some ⟨ccl, cdd, .fields vs, ccs⟩ ∧ vs[2]? = some (.str file tf) ∧ ((P.main.file : Str) == file) = true
  top : (P.main.scope.names.lookup ("super" : Str)).isSome = false
  ce : ∃ (cc : Addr) (cl : Value) (cld : Option Addr) (csl : Array (Option Value)), env.cells.lookup ("__class__" : Str) = some cc ∧ K.lookup cc = some ⟨cl, cld, .cell (some (.ref D)), csl⟩
  mg : mg "super" = none
  any : PySem.W.nsIn K cStatics "thirdparty.any" = some none
  it : interactive env = false
  ka : env.kindOf sn = some .local
/-- .. and of the class of the object -/
structure SupC (K : PySem.W.Frag) (C D : Addr) : Prop where
  cls : ∃ cd, PySem.W.clsIn K D = some cd
  sub : PySem.W.mroIn K C (.ref D) = some true
  sup : PySem.W.ks_superIn K C D "__init__" = some (some (.builtin vei))
  ve : PySem.W.subIn K (.ref C) (.type "ValueError") = some true
  exc : OexC K C
section
variable {X : Cx} {pins : List (Addr × Obj)} {σ : List (Option V)} {H : Hp} {s : Shared} {self : Str} {D a C : Addr} {body : List Stmt} {p0 p1 p2 pos pos' : Pos} {e : Expr} {te : TE}
theorem ld_super {E : Value → Shared → Prop} {Q : Value → Shared → Prop} (I : Inv X pins σ H s) (S : SupF X.prog X.K X.mg X.env self D) (h : Q (.type "super") s) : wpAny (model X.prog X.w) X.A (loadName X.env "super") Q E s := by
  obtain ⟨mb, h1, h2⟩ := I.mod.blt
  exact PySem.W.ks_loadName_global I.ok.kind S.ks (Calls.loadGlobal_builtin (by rw [I.ok.glob]; exact I.mod.glob.keeps I.bk) S.mg (by rw [I.ok.blt]; exact h1.keeps I.bk) ((h2 _ (by decide)).trans (by rfl)) h)
theorem self_at (I : Inv X pins σ H s) {u : V} (h1 : X.N[0]? = some self) (h2 : σ[0]? = some (some u)) (hk : X.env.kindOf self = some .local) : ∃ m v, s.heap.Ns X.env.locals m ∧ m self = some v ∧ RelV u v := by
  obtain ⟨m, hn, hl⟩ := I.loc
  obtain ⟨v, r, k⟩ := hl 0 self u h1 h2 (.inl hk)
  rcases k with ⟨_, k⟩ | ⟨k, _⟩
  · exact ⟨m, v, hn, k, r⟩
  · rcases k with k | k <;> · rw [hk] at k; cases k
theorem exo_inst {C a : Addr} (T : OexC X.K C) (I : Inv X pins σ H s) (e : H a = some (exo a C none)) : ∃ t1 : Addr, PySem.W.InstAt s.heap a { cls := .ref C, dict := none, data := .fields #[.ref t1, .none, .none, .none, .bool false, .none] } C none := by
  obtain ⟨t1, ho⟩ := exo_at I.hok e
  exact ⟨t1, ho, rfl, rfl, trivial⟩
/-- the wrapper called -/
theorem call_mw {u : Addr} {us : List Value} {Q : Value → Shared → Prop} {E : Value → Shared → Prop} {A : Around} (T : OexC X.K C) (I : Inv X pins σ H s) (eu : H u = some (mwO u a)) (ea : H a = some (exo a C none)) (hl : us.length ≤ sizeLine) (h : ∀ s', Inv X pins σ H s' → Q .none s') :
    wpAny (model X.prog X.w) A (call (.ref u) us) Q E s := by
  obtain ⟨nm, q, N, bs, bm, sn, sub, ab, col, dd, k0, k1, k2, k3, k5, hC, hbm⟩ := T.cls
  obtain ⟨t1, ho⟩ := exo_at I.hok ea
  have hu := mwO_at I.hok eu
  have hCh := I.kIn _ _ hC
  have FB := F.excBase_ValueError
  obtain ⟨hp, g, d, t, os⟩ := s
  refine wpAny_call (codeAny_of_tree ?_)
  show wpAny _ A.in1 (callAny (.ref u) ⟨us, []⟩) _ _ _
  simp only [callAny]
  refine wpAny_bind (wpAny_load hu ?_)
  simp only [PySem.W.kxs_mw, show (Value.type "method-wrapper" == Value.type "method" || Value.type "method-wrapper" == Value.type "builtin_function_or_method" || Value.type "method-wrapper" == Value.type "method-wrapper") = true by decide, if_true]
  refine PySem.W.KFB.if_so (by decide) ?_
  refine wpAny_bind (PySem.W.check_bound_init FB.toExcCallFacts hCh ho rfl ?_)
  refine wpAny_bind (wpAny_pure (wpAny_pure ?_))
  refine ⟨plainId_quiet FB.init.plain _, codeAny_builtin FB.initEntry ?_⟩
  refine PySem.W.exc_init_tree (cls := .ref C) (t0 := t1) (dv := none) (c2 := .none) (c3 := .none) (b4 := .bool false) ho hl fun h' k hx _ => ?_
  have J := I.write (t' := t) (x := a) (e := a) (o := exo a C none) (by rw [ea]; exact True.intro) (.inl rfl) k ⟨_, hx⟩ (exo_ok hx)
  have eu2 : upd H a (exo a C none) = H := by
    funext b
    by_cases hb : b = a
    · rw [hb, upd_same, ea]
    · rw [upd_ne hb]
  rw [eu2] at J
  exact h _ J
theorem sup_stmt {es : List Expr} {pl : Sem Bool} {ta : TA} {G : Hp → Prop} {Q : Flow → Shared → Prop} (I : Inv X pins σ H s) (S : SupF X.prog X.K X.mg X.env self D) (T : SupC X.K C D) (hN : X.N[0]? = some self) (h0 : σ[0]? = some (some (.ref a))) (ea : H a = some (exo a C none)) (ha : PA X (e :: es) ta)
    (h : ∀ u, H u = none → ta σ (upd H u (mwO u a)) fun vs H2 => vs.length ≤ 1000 ∧ H2 u = some (mwO u a) ∧ H2 a = some (exo a C none) ∧ G H2) (hq : ∀ H2 s', Inv X pins σ H2 s' → G H2 → Q .next s')
    (hev : eval (.Call (.Attribute (.Call (.Name "super" p0) [] [] p1) "__init__" p2) (e :: es) [] pos) X.env = (do
      let ov ← attributeBase (.Call (.Name "super" p0) [] [] p1) "__init__" X.env (eval (.Call (.Name "super" p0) [] [] p1) X.env)
      standAt p2.atName
      let (f, first) ← holding [ov] (getMethod ov "__init__" pl)
      callWith pos f first (backTo pos (starEach (e :: es) X.env)) []) := by rfl)
    (he : starEach (e :: es) X.env = (false, eval e X.env) :: starEach es X.env := by rfl) (hpl : (backTo pos (starEach es X.env)).any (·.1) = false := by rfl) :
    _root_.PySem.wpAt (model X.prog X.w) X.A (.func body X.env) (exec (.Expr (.Call (.Attribute (.Call (.Name "super" p0) [] [] p1) "__init__" p2) (e :: es) [] pos) pos') X.env) Q X.xe s := by
  refine ks_wpAt_Expr_any ?_ S.it
  refine ks_wpAt_MethodCall ?_ hev
  obtain ⟨f, oc, od, fd, osl, ar, hfu, lf, hp, har⟩ := S.fn
  obtain ⟨cda, ccl, cdd, vs, ccs, file, tf, hco, lc, hvs, hfile⟩ := S.co
  obtain ⟨cc, cl, cld, csl, hcl, lcc⟩ := S.ce
  obtain ⟨m, v, hn, hv, rv⟩ := self_at I hN h0 S.ka
  obtain rfl : v = Value.ref a := rv
  obtain ⟨t1, inst⟩ := exo_inst T.exc I ea
  obtain ⟨cdD, hD⟩ := T.cls
  have XK := I.kIn
  obtain ⟨oD, hD1, hD2⟩ : ∃ oD, s.heap.get? D = some oD ∧ oD.data = .cls cdD := by
    unfold PySem.W.clsIn at hD
    split at hD
    · rename_i c d cd' sl ho
      cases hD
      exact ⟨_, XK _ _ ho, rfl⟩
    · cases hD
  refine ks_wpAt_super_base S.ks S.kc (by decide) hfu (XK _ _ lf) rfl hp hco (XK _ _ lc) rfl hvs hfile S.top ?_
  refine ld_super I S ⟨rfl, ?_⟩
  refine wpAny_loadName_free I.ok.kind S.kc hcl ⟨_, XK _ _ lcc, rfl⟩ ?_
  refine wpAny_loadName_local I.ok.kind (har ▸ S.ka) hn (har ▸ hv) ?_
  refine ks_wpAny_isType_cls hD1 hD2 ⟨rfl, ?_⟩
  obtain ⟨hp0, g, d, t, os⟩ := s
  refine ks_wpAny_call_super hD1 hD2 inst.at_ rfl (fun c e => by cases e) (PySem.W.looks_mroIn XK T.sub) fun h' eso k => ?_
  have I2 : Inv X pins σ H ⟨h', g, d, t, os⟩ := I.kept (t' := t) k
  have XK2 := I2.kIn
  have sup := T.sup
  unfold PySem.W.ks_superIn at sup
  cases hc : PySem.W.clsIn X.K C with
  | none =>
    rw [hc] at sup
    cases sup
  | some cd =>
    rw [hc] at sup
    obtain ⟨t2, inst2⟩ := exo_inst T.exc I2 ea
    refine PySem.W.kxs_getMethod PySem.W.kxs_ValueError eso (PySem.W.looks_opaque XK2 S.any) (l₀ := cd.mro) ?_ rfl XK2 sup (inst2.type.andThen (PySem.W.looks_subIn XK2 T.ve)) (PySem.W.ks_ne XK2 inst2 hc) (by decide) ?_
    · exact fun A Q E s k q => wpAny_bind ((PySem.W.looks_clsIn XK2 hc) A _ E s k (wpAny_pure q))
    · have hnu : H h'.objs.size = none := I2.hok.fresh (Nat.le_refl _)
      have gu : (h'.push (PySem.W.kxs_mw vei a)).get? h'.objs.size = some (PySem.W.kxs_mw vei a) := Heap.get?_push_at rfl rfl
      have I3 : Inv X pins σ (upd H h'.objs.size (mwO h'.objs.size a)) ⟨h'.push (PySem.W.kxs_mw vei a), g, d, t + 1, os⟩ :=
        I2.laid (t' := t + 1) (fun b o e => Heap.get?_push_of_some _ e) (Nat.le_refl _) (mwO_ok gu)
      show wpAny _ _ (callWith pos (.ref h'.objs.size) [] (backTo pos (starEach (e :: es) X.env)) []) _ _ _
      have run := ha.run pos pins _ σ _ _ I3 (h _ hnu)
      rw [he] at run ⊢
      refine PySem.W.kxs_callWith (i := vei) (x := a) (by show (false || (backTo pos (starEach es X.env)).any (·.1)) = false; rw [hpl]; rfl) ?_
      refine Calls.evalArgs_plain (thn run fun us s1 ⟨vs, H1, I1, r1, hz, eu, ea1, hG⟩ => ⟨mwO_at I1.hok eu, ?_⟩)
      exact call_mw T.exc I1 eu ea1 (by show us.length ≤ _; rw [← Paired.length r1, sizeLine_eq]; omega) fun s' J => hq H1 s' J hG
end
section
variable {CX : CXT} {P : Program} {w : World} {K : PySem.W.Frag} {mg : Str → Option Value} {base : Heap} {k : Nat} {F : NF} {f cc D : Addr} {kV doc pm ct oc : Value} {an od : Option Addr} {osl : Array (Option Value)} {N ps : List Str} {sp : Sp} {self : Str} {e : Expr} {es : List Expr} {p0 p1 p2 pos pos' : Pos} {rest : List Stmt} {pl : Sem Bool}
theorem fn_sup (lk : K.lookup f = some ⟨oc, od, .func (PySem.W.fnX F.name F.qual F.params F.body F.scope F.cl .none kV doc pm an (.ref F.c) ct), osl⟩) (hcd : PySem.W.codeIn K (.ref F.c) F.qual = true) (hcl : F.cl = [(("__class__" : Str), cc)])
    (hcc : ∃ cl cld csl, K.lookup cc = some ⟨cl, cld, .cell (some (.ref D)), csl⟩) (S : NScope N ps ["__class__"] F.scope) (hF : ∀ L, SupF P K mg (envF F f L) self D) (hN : N[0]? = some self)
    (hbd : F.body = .Expr (.Call (.Attribute (.Call (.Name "super" p0) [] [] p1) "__init__" p2) (e :: es) [] pos) pos' :: rest)
    (len : ∀ vs H Q E, sp vs H Q E → vs.length = ps.length)
    (hbody : ∀ (A : Around) (outer : List Env) (s : Shared) (H : Hp) (vs : List V) (Q : VK) (E : XK), Room k (A.deeper (envF F f s.heap.objs.size)) → sp vs H Q E →
      ∃ (a C : Addr) (ta : TA) (t : TS), SupC K C D ∧ (startF N vs [none])[0]? = some (some (.ref a)) ∧ H a = some (exo a C none) ∧ PA (ncx CX P w K mg base N F f A outer s H E) (e :: es) ta ∧ PSs (ncx CX P w K mg base N F f A outer s H E) rest t ∧
        ∀ u, H u = none → ta (startF N vs [none]) (upd H u (mwO u a)) fun vs' H2 => vs'.length ≤ 1000 ∧ H2 u = some (mwO u a) ∧ H2 a = some (exo a C none) ∧ t { nx := fun _ H' => Q .non H', rt := Q } (startF N vs [none]) H2)
    (hev : ∀ L, eval (.Call (.Attribute (.Call (.Name "super" p0) [] [] p1) "__init__" p2) (e :: es) [] pos) (envF F f L) = (do
      let ov ← attributeBase (.Call (.Name "super" p0) [] [] p1) "__init__" (envF F f L) (eval (.Call (.Name "super" p0) [] [] p1) (envF F f L))
      standAt p2.atName
      let (g, first) ← holding [ov] (getMethod ov "__init__" pl)
      callWith pos g first (backTo pos (starEach (e :: es) (envF F f L))) []) := by intro L; rfl)
    (he : ∀ L, starEach (e :: es) (envF F f L) = (false, eval e (envF F f L)) :: starEach es (envF F f L) := by intro L; rfl) (hpl : ∀ L, (backTo pos (starEach es (envF F f L))).any (·.1) = false := by intro L; rfl) :
    FnOk P w K mg base CX (k + 1) f (PySem.W.fnX F.name F.qual F.params F.body F.scope F.cl .none kV doc pm an (.ref F.c) ct) ps sp := by
  refine ⟨len, fun A outer s H args us vs Q E hr e0 hb r hsp => ?_⟩
  have hl := len _ _ _ _ hsp
  have KX : K.In s.heap := e0.mod.kin.keeps fun b o e => (e0.bs b o e).1
  have lim : s.heap.NoLimit := e0.mod.nolimit.keeps fun b o e => (e0.bs b o e).1
  obtain ⟨cl, cld, csl, hcc⟩ := hcc
  have C : CellsAt F.cl ["__class__"] [none] s.heap H := by
    have one : ∀ {y : Str} {c : Addr}, F.cl.lookup y = some c → y = "__class__" ∧ c = cc := fun {y c} e => by
      rw [hcl] at e
      by_cases h : y = ("__class__" : Str)
      · subst h
        have e2 : some cc = some c := e
        exact ⟨rfl, (Option.some.inj e2).symm⟩
      · have h2 : (y == ("__class__" : Str)) = false := by simpa using h
        rw [List.lookup_cons, h2] at e
        cases e
    refine ⟨rfl, fun y c e => ?_, fun x y c e1 e2 => (one e1).1.trans (one e2).1.symm, fun i y hi => ?_⟩
    · rw [(one e).2]
      exact ⟨(e0.bs _ _ (e0.mod.kin _ _ hcc)).2, _, ⟨_, KX _ _ hcc, rfl⟩⟩
    · cases i with
      | zero =>
        have e : ("__class__" : Str) = y := Option.some.inj hi
        refine ⟨cc, by rw [hcl, ← e]; rfl, fun v hv => ?_⟩
        cases hv
      | succ i => cases hi
  refine ks_codeAny_call_defAt hr.depth (KX _ _ lk) rfl lim (PySem.W.codeRec_of KX hcd) rfl hb S.nocell (fun ⟨n, v⟩ hy => S.par n (List.of_mem_zip hy).1) (fun h₁ hns kp => ?_) S.co S.gen S.kind
  show _root_.PySem.wpAt (model P w) (A.deeper (envF F f s.heap.objs.size)) (.func F.body (envF F f s.heap.objs.size)) (execs F.body (envF F f s.heap.objs.size)) _ _ _
  obtain ⟨a, Ca, ta, t, hC, h0, ea, pa, ps', hq⟩ := hbody A outer s H vs Q E (hr.deeper _) hsp
  have I : Inv (ncx CX P w K mg base N F f A outer s H E) [] (startF N vs [none]) H { s with heap := h₁, toks := s.toks + (ps.zip us).length } := inv_startN S hr.hd e0 hl r C hns kp
  have fin : ∀ {s' : Shared} {σ' : L2.St} {H' : Hp} {v : V} {u : Value}, Inv (ncx CX P w K mg base N F f A outer s H E) [] σ' H' s' → L2.RelV v u → Q v H' → CE outer P w H s Q u s' :=
    fun {s' σ' H' v u} J rv q => ⟨v, H', J.os, J.bare, J.base, J.hok, rv, q⟩
  have main : ∀ (body : List Stmt), _root_.PySem.wpAt (model P w) (A.deeper (envF F f s.heap.objs.size)) (.func body (envF F f s.heap.objs.size)) (execs (.Expr (.Call (.Attribute (.Call (.Name "super" p0) [] [] p1) "__init__" p2) (e :: es) [] pos) pos' :: rest) (envF F f s.heap.objs.size))
      (fun fl s' => CR CX outer P w H s Q E (.ok (.ret (match fl with | .ret v => v | _ => .none))) s') (ncx CX P w K mg base N F f A outer s H E).xe { s with heap := h₁, toks := s.toks + (ps.zip us).length } := by
    intro body
    refine ks_wpAt_execs_cons ?_
    refine sup_stmt (X := ncx CX P w K mg base N F f A outer s H E) (body := body) (G := fun H2 => t { nx := fun _ H' => Q .non H', rt := Q } (startF N vs [none]) H2) I (hF _) hC hN h0 ea pa hq (fun H2 s' J hG => ?_) (hev _) (he _) (hpl _)
    refine wpAt_of_wpAny ?_
    refine wpAny_mono (ps'.run [] s' (startF N vs [none]) H2 _ J hG) (fun fl s' hs => ?_) fun e s' hs => hs
    cases fl with
    | ret u =>
      obtain ⟨v, σ', H', J, rv, q⟩ := hs
      exact fin J rv q
    | next =>
      obtain ⟨σ', H', J, q⟩ := hs
      exact fin (v := V.non) (u := Value.none) J rfl q
    | brk =>
      obtain ⟨_, _, _, q⟩ := hs
      exact False.elim q
    | cont =>
      obtain ⟨_, _, _, q⟩ := hs
      exact False.elim q
  have m2 := main F.body
  rw [← hbd] at m2
  exact m2
end
end Sup
/-! Sets of texts, made of a list or a tuple, and sorted: any texts, in whatever order the world walks them. -/
namespace Sx
open PySem PySem.Spec PyProof.Rows L2 PySem.Froz

/-! ### lists -/
/-- a list without twins whose members all stand in a list of the same length is that list in another order -/
theorem perm_of_sub : ∀ (l ks : List Str), l.Nodup → (∀ x, x ∈ l → x ∈ ks) → ks.length = l.length → l.Perm ks
  | [], ks, _, _, e => by
    have z : ks = [] := List.length_eq_zero_iff.mp e
    rw [z]
  | x :: l, ks, nd, sub, e => by
    obtain ⟨hx, nd'⟩ := List.nodup_cons.mp nd
    have hm : x ∈ ks := sub x List.mem_cons_self
    have p := List.perm_cons_erase hm
    have hl : (ks.erase x).length = l.length := by
      have q := p.length_eq
      simp only [List.length_cons] at q e
      omega
    refine ((perm_of_sub l (ks.erase x) nd' (fun y hy => ?_) hl).cons x).trans p.symm
    have hne : y ≠ x := fun z => hx (z ▸ hy)
    exact (List.mem_erase_of_ne hne).mpr (sub y (List.mem_cons_of_mem _ hy))

/-! ### the payload behind an add -/
theorem tail_ris {ep : Nat} {es : Array (Int × Value)} {t : SetTable} {d : Bool} (r : Ris t.place.toList) : Ris (tailTx ep es t d).2.2.place.toList := by
  unfold tailTx
  split
  · exact relayAll_ris t es _
  · exact r
theorem tail_led {ep : Nat} {es : Array (Int × Value)} {t : SetTable} {d : Bool} : (tailTx ep es t d).2.2.led = t.led := by
  unfold tailTx
  split
  · exact relayAll_led t es _
  · rfl
theorem add_ris {D : SD} (h : Int) (v : Value) (r : Ris D.2.2.place.toList) : Ris (addTx h v D).2.2.place.toList := by
  have r1 := layNew_ris D.2.2 D.1 h v r
  unfold addTx
  apply tail_ris
  split
  · exact r1
  · exact r1
theorem add_led {D : SD} (h : Int) (v : Value) : (addTx h v D).2.2.led = D.2.2.led := by
  have r1 := layNew_led D.2.2 D.1 h v
  unfold addTx
  rw [tail_led]
  split
  · exact r1
  · exact r1

/-- the set of the texts l stands at a -/
def SetX (P : Program) (w : World) (h : Heap) (a : Addr) (l : List Str) : Prop :=
  ∃ D : SD, h.get? a = some (sObj "set" D) ∧ TxOk P w D l ∧ l.Nodup ∧ Ris D.2.2.place.toList ∧ (w.params.followText "set-order" = true ∨ D.2.2.led = true)

section
variable {P : Program} {w : World} {A : Around} {E : Value → Shared → Prop} {s : Shared}

theorem SetX.at {h h' : Heap} {a : Addr} {l : List Str} (R : SetX P w h a l) (k : ∀ o, h.get? a = some o → h'.get? a = some o) : SetX P w h' a l := by
  obtain ⟨D, ho, r⟩ := R
  exact ⟨D, k _ ho, r⟩
theorem setX_fresh {h : Heap} {a : Addr} (ho : h.get? a = some { cls := .type "set", dict := none, data := .set #[] 0 (.fresh 0 0 (!w.params.followText "set-order")) }) : SetX P w h a [] := by
  refine ⟨(#[], 0, .fresh 0 0 (!w.params.followText "set-order")), ho, TxOk.nil rfl, List.nodup_nil, List.Pairwise.nil, ?_⟩
  show _ ∨ (!w.params.followText "set-order") = true
  cases w.params.followText "set-order"
  · exact .inr rfl
  · exact .inl rfl

/-- one text more, new or there already -/
theorem add_any {a : Addr} {l : List Str} {k : Str} {u : Tok} {Q : Bool → Shared → Prop} (R : SetX P w s.heap a l) (hb : l.length + 1 < scanBound)
    (hQ : ∀ b h' l', Heap.SameBut a s.heap h' → SetX P w h' a l' → (∀ x, x ∈ l' ↔ x = k ∨ x ∈ l) → l'.length ≤ l.length + 1 → Q b { s with heap := h' }) :
    wpAny (model P w) A (setAddHashed a (.str k u) (hashStr w k)) Q E s := by
  obtain ⟨D, ho, F, nd, r, hl⟩ := R
  rcases Classical.em (k ∈ l) with hk | hk
  · obtain ⟨es, ep, t⟩ := D
    have hd : (sObj "set" (es, ep, t)).data = .set es ep t := rfl
    have hf : t.fits es.size = true := F.fit
    have hel : ElemsOf (PySem.strKind P w) es.toList := F.el
    have hb0 : es.size < scanBound := by
      have z : es.size = l.length := F.sz
      omega
    have hkey : (PySem.strKind P w).is k (.str k u) = true := is_str k u
    unfold setAddHashed setAddHashedIn
    refine wpAny_holding (wpAny_bind (wpAny_setState_of ho hd hf ?_))
    dsimp only
    rw [byScan_of rfl hb0 hel]
    simp only [↓reduceIte]
    unfold setAddByScan
    refine wpAny_bind ?_
    refine wpAny_bind (wpAny_rule ?_)
    refine wpAny_bind (wpAny_setScan_of (knd := PySem.strKind P w) (k := k) hkey ho hd hf hel ?_)
    cases hfi : List.findIdx? (fun e => (PySem.strKind P w).is k e.2) es.toList with
    | none =>
      obtain ⟨e, he, q⟩ := (F.mem k).mp hk
      have c := List.findIdx?_eq_none_iff.mp hfi e he
      rw [q] at c
      cases c
    | some j =>
      dsimp only
      refine wpAny_pure (wpAny_pure ?_)
      exact hQ _ s.heap l (Heap.SameBut.refl a s.heap) ⟨(es, ep, t), ho, F, nd, r, hl⟩ (fun x => ⟨.inr, fun z => z.elim (fun e => e ▸ hk) id⟩) (Nat.le_succ _)
  · refine add_x ho F hk hb (hQ _ _ (k :: l) (Heap.SameBut.update s.heap a _) ⟨_, get_upd _ ho rfl, add_ok u F, List.nodup_cons.mpr ⟨hk, nd⟩, add_ris _ _ r, ?_⟩ (fun x => List.mem_cons) (Nat.le_refl _))
    exact hl.imp id fun z => by
      rw [add_led]
      exact z
end

/-! ### set(xs): the loop -/
section
variable {P : Program} {w : World} {A : Around} {R : Result → Shared → Prop} {I : Addr} {fp wr : List Addr} {G : Array GenState → Array GenState → Prop} {n : Nat} {Pv : Nat → Value → Prop} {St : Nat → Shared → Prop}
theorem fill_loop (W : WalksS P w A.in1 I fp wr G n Pv St) (S : Addr) (hSf : S ∉ fp) (xs : List Str) (hn : xs.length = n) (hval : ∀ i v, Pv i v → ∃ t, v = .str (xs.getD i Str.empty) t) (hb : n + 1 < scanBound) :
    ∀ (k i : Nat) (s : Shared) (l : List Str), n - i = k → i ≤ n → St i s → SetX P w s.heap S l → (∀ x, x ∈ l ↔ x ∈ xs.take i) → l.length ≤ i →
      (∀ s' l', Moved (S :: wr) G s s' → SetX P w s'.heap S l' → (∀ x, x ∈ l' ↔ x ∈ xs) → l'.length ≤ n → R (.ok (.ret .none)) s') →
      codeAny (model P w) A (.builtin "set.update.loop" ⟨[.ref S, .ref I], []⟩) R s := by
  have hSw : S ∉ wr := fun h => hSf (W.sub _ h)
  have hsub : ∀ b ∈ wr, b ∈ S :: wr := fun b hb => List.mem_cons_of_mem _ hb
  intro k
  induction k with
  | zero =>
    intro i s l hk hi hst hS hm hlen hR
    have hin : i = n := by omega
    subst hin
    refine codeAny_builtin PyProof.Rows.F.entry_set_update_loop ?_
    rw [Around.under_plainId PyProof.Rows.F.plain_set_update_loop _]
    show wpAny _ A.in1 (pyNext (.ref I) >>= _) _ _ s
    refine wpAny_bind (W.done s _ _ hst fun s' hmv => ?_)
    show wpAny _ A.in1 (ret Value.none) _ _ s'
    refine wpAny_pure (hR s' l (hmv.mono hsub) (hS.at fun o e => hmv.heap S o hSw e) (fun x => ?_) hlen)
    rw [hm x, ← hn, List.take_length]
  | succ k ih =>
    intro i s l hk hi hst hS hm hlen hR
    have hlt : i < n := by omega
    refine codeAny_builtin PyProof.Rows.F.entry_set_update_loop ?_
    rw [Around.under_plainId PyProof.Rows.F.plain_set_update_loop _]
    show wpAny _ A.in1 (pyNext (.ref I) >>= _) _ _ s
    refine wpAny_bind (W.item i s _ _ hlt hst fun v s' hP hst' hmv => ?_)
    obtain ⟨t, rfl⟩ := hval i v hP
    have hS' : SetX P w s'.heap S l := hS.at fun o e => hmv.heap S o hSw e
    show wpAny _ A.in1 (holding [Value.str (xs.getD i Str.empty) t] (setAdd S (.str (xs.getD i Str.empty) t)) >>= _) _ _ s'
    refine wpAny_bind (wpAny_holding ?_)
    unfold setAdd
    refine wpAny_holding ?_
    refine wpAny_bind ((PySem.strKind P w).pyHash (k := xs.getD i Str.empty) (strKind_is _ _ _ _) ?_)
    have hroom : l.length + 1 < scanBound := by omega
    refine add_any (s := { s' with toks := s'.toks + 1 }) hS' hroom fun b h' l' hsb hS2 hm2 hl2 => ?_
    have hix : i < xs.length := by omega
    have eg : xs.getD i Str.empty = xs[i] := by
      rw [List.getD_eq_getElem?_getD, List.getElem?_eq_getElem hix]
      rfl
    have hm3 : ∀ x, x ∈ l' ↔ x ∈ xs.take (i + 1) := fun x => by
      rw [hm2 x, List.take_succ, List.getElem?_eq_getElem hix, eg]
      show _ ↔ x ∈ xs.take i ++ [xs[i]]
      rw [List.mem_append, List.mem_singleton, hm x]
      exact Or.comm
    refine wpAny_pure ⟨plainId_quiet PyProof.Rows.F.plain_set_update_loop _, ih (i + 1) _ l' (by omega) hlt (W.frame _ s' _ _ hst' (Nat.le_succ _) fun b hb o e => ?_) hS2 hm3 (by omega) fun s'' l'' hmv'' hS'' hm'' hl'' => ?_⟩
    · rw [hsb.2 b (fun h : b = S => hSf (by rw [← h]; exact hb))]
      exact e
    · refine hR s'' l'' (Moved.trans W.gtrans ((hmv.mono hsub).then_heap (Nat.le_succ _) fun b o hb e => ?_) hmv'') hS'' hm'' hl''
      rw [hsb.2 b (fun h : b = S => hb (by rw [h]; exact List.mem_cons_self))]
      exact e
end

/-! ### set(xs): the call -/
section
variable {P : Program} {w : World} {A : Around} {E : Value → Shared → Prop} {s : Shared}
abbrev emptyObj (w : World) : Obj := { cls := .type "set", dict := none, data := .set #[] 0 (.fresh 0 0 (!w.params.followText "set-order")) }
theorem str_at {us : List Value} {xs : List Str} (h : StrsAre us xs) : ∀ (i : Nat) (v : Value), us[i]? = some v → ∃ t, v = .str (xs.getD i Str.empty) t := by
  induction h with
  | nil =>
    intro i v e
    cases e
  | cons y t h ih =>
    intro i v e
    cases i with
    | zero =>
      have q : Value.str y t = v := Option.some.inj e
      exact ⟨t, q.symm⟩
    | succ i => exact ih i v e

set_option maxRecDepth 100000 in
set_option maxHeartbeats 4000000 in
/-- set(xs), xs a list or a tuple of texts -/
theorem call_set {l : Addr} {items : Array Value} {xs : List Str} {Q : Value → Shared → Prop} (hh : A.handled = none) (hl : s.heap.IsList l items ∨ s.heap.IsTuple l items) (hi : StrsAre items.toList xs) (hb : xs.length + 1 < scanBound)
    (h : ∀ (h' : Heap) (tk : Nat) (ys : List Str), SetX P w h' s.heap.objs.size ys → (∀ x, x ∈ ys ↔ x ∈ xs) → ys.length ≤ xs.length → (∀ b o, s.heap.get? b = some o → h'.get? b = some o) → Q (.ref s.heap.objs.size) { s with heap := h', toks := tk }) :
    wpAny (model P w) A (call (.type "set") [.ref l]) Q E s := by
  have hisz : xs.length = items.size := by rw [← StrsAre.len_eq hi, Array.length_toList]
  have hval : ∀ (i : Nat) (v : Value), items[i]? = some v → ∃ t, v = .str (xs.getD i Str.empty) t := fun i v hv => str_at hi i v (by rw [Array.getElem?_toList]; exact hv)
  obtain ⟨c, tl, hmro⟩ := PySem.F.called_set.mro
  have hmade := PySem.F.called_set.made
  have hsub := PySem.F.called_set.sub
  refine wpAny_call (codeAny_of_tree ?_)
  show wpAny _ _ (callAny (.type "set") _) _ _ _
  refine wpAny_pure ⟨Code.quiet_builtin _ (by decide +kernel), codeAny_builtin PySem.F.entry_type_call ?_⟩
  rw [Around.under_plain (weight_type_call_type "set" [.ref l] []) rfl]
  have h1 := PySem.F.called_set.notType
  have h2 := PySem.F.called_set.canCreate
  have hct := PySem.F.typeCall_set_1 (.ref l)
  repeat (any_goals (first | assumption | wp_step))
  refine codeAny_mono (code_set_led1 (.ref l) (E := E) (Q₁ := fun obj s₁ => obj = .ref s.heap.objs.size ∧ s₁ = { s with heap := s.heap.push (emptyObj w) }) ⟨rfl, rfl⟩) fun r s₁ hr => ?_
  cases r with
  | error e => exact hr
  | ok fl =>
    cases fl with
    | ret obj =>
      obtain ⟨rfl, rfl⟩ := hr
      have hS : (s.heap.push (emptyObj w)).get? s.heap.objs.size = some (emptyObj w) := Heap.get?_push_size _ rfl
      have hT : Shared.TypeIs { s with heap := s.heap.push (emptyObj w) } (.ref s.heap.objs.size) "set" := ⟨_, hS, rfl⟩
      have hli := PySem.F.called_set.init.lookup
      have hbi := PySem.F.called_set.init.bind (.ref s.heap.objs.size)
      repeat (any_goals (first | assumption | wp_step))
      refine codeAny_mono (codeAny_call_builtin (R := wants (fun r s₂ => r = .none ∧ ∃ h' tk ys, s₂ = { s with heap := h', toks := tk } ∧ SetX P w h' s.heap.objs.size ys ∧ (∀ x, x ∈ ys ↔ x ∈ xs) ∧ ys.length ≤ xs.length ∧
          (∀ b o, s.heap.get? b = some o → h'.get? b = some o)) E) PySem.F.called_set.init.plain PySem.F.entry_set_init (check_set_init_1 hT ?_)) fun r₂ s₂ hr₂ => ?_
      · have hh3 : A.in1.in1.in1.handled = none := by simp [hh]
        have hz1 : (s.heap.push (emptyObj w)).objs.size = s.heap.objs.size + 1 := Heap.size_push ..
        rcases hl with hl | hl
        · obtain ⟨ol, hol, hcl, nl, hdl⟩ := hl
          obtain ⟨ocls, odict, odata, oslots⟩ := ol
          simp only at hcl hdl
          subst hcl; subst hdl
          have hol' : (s.heap.push (emptyObj w)).get? l = some { cls := .type "list", dict := odict, data := .seq items nl, slots := oslots } := Heap.get?_push_of_some _ hol
          have hsls := PySem.F.sub_list_set
          have hslf := PySem.F.sub_list_frozenset
          have hne : (Value.type "list" == Value.type "dict") = false := by decide
          have hl1 : (s.heap.push (emptyObj w)).IsList l items := ⟨_, hol', rfl, nl, rfl⟩
          unfold Builtin.«set.__init__» noKeywords Builtin.Frozenset.updateFrom
          generalize hPI : pyIter = PI
          wp_walk
          subst hPI
          refine wpAny_pyIter_list hl1 ?_
          refine wpAny_bind (wpAny_runValue ?_)
          have hlS : l < s.heap.objs.size := Heap.lt_size hol
          have hneI : l ≠ (s.heap.push (emptyObj w)).objs.size := by
            rw [hz1]
            exact Nat.ne_of_lt (Nat.lt_succ_of_lt hlS)
          have hSf : s.heap.objs.size ∉ [(s.heap.push (emptyObj w)).objs.size, l] := by
            simp only [List.mem_cons, List.mem_singleton, List.not_mem_nil, or_false, not_or]
            rw [hz1]
            exact ⟨Nat.ne_of_lt (Nat.lt_succ_self _), Nat.ne_of_gt hlS⟩
          have hget : ((s.heap.push (emptyObj w)).push { cls := .type "list_iterator", data := .fields #[.ref l, .int 0 0] }).get? s.heap.objs.size = some (emptyObj w) := Heap.get?_push_of_some _ hS
          refine fill_loop ((Walks.list hh3 _ l hneI items).toS) s.heap.objs.size hSf xs hisz hval (by omega) (items.size - 0) 0 _ [] (by omega) (Nat.zero_le _)
            ⟨⟨_, Heap.get?_push_size _ rfl, rfl, rfl⟩, (hl1.push _)⟩ (setX_fresh hget) (fun x => Iff.rfl) (Nat.le_refl _) ?hR
          case hR =>
            intro s' ys hm hS' hmm hlen
            obtain ⟨h', g', d', tk', os'⟩ := s'
            have eg : g' = s.gens := hm.gens
            have ed : d' = s.drawn := hm.drawn
            have eo : os' = s.os := hm.os
            subst eg; subst ed; subst eo
            show wpAny _ _ _ _ _ _
            refine wpAny_pure ?_
            show wpAny _ _ (ret Value.none) _ _ _
            refine wpAny_pure ⟨rfl, h', tk', ys, rfl, hS', hmm, by omega, fun b o e => ?_⟩
            have hb0 : b < s.heap.objs.size := Heap.lt_size e
            refine hm.heap b o ?_ (Heap.get?_push_of_some _ (Heap.get?_push_of_some _ e))
            simp only [List.mem_cons, List.mem_singleton, List.not_mem_nil, or_false, not_or]
            rw [hz1]
            exact ⟨Nat.ne_of_lt hb0, Nat.ne_of_lt (Nat.lt_succ_of_lt hb0)⟩
        · obtain ⟨ol, hol, hcl, nl, hdl⟩ := hl
          obtain ⟨ocls, odict, odata, oslots⟩ := ol
          simp only at hcl hdl
          subst hcl; subst hdl
          have hol' : (s.heap.push (emptyObj w)).get? l = some { cls := .type "tuple", dict := odict, data := .seq items nl, slots := oslots } := Heap.get?_push_of_some _ hol
          have hsls := PySem.F.sub_tuple_set
          have hslf := PySem.F.sub_tuple_frozenset
          have hne : (Value.type "tuple" == Value.type "dict") = false := by decide
          have hl1 : (s.heap.push (emptyObj w)).IsTuple l items := ⟨_, hol', rfl, nl, rfl⟩
          unfold Builtin.«set.__init__» noKeywords Builtin.Frozenset.updateFrom
          generalize hPI : pyIter = PI
          wp_walk
          subst hPI
          refine wpAny_pyIter_tuple hl1 ?_
          refine wpAny_bind (wpAny_runValue ?_)
          have hlS : l < s.heap.objs.size := Heap.lt_size hol
          have hneI : l ≠ (s.heap.push (emptyObj w)).objs.size := by
            rw [hz1]
            exact Nat.ne_of_lt (Nat.lt_succ_of_lt hlS)
          have hSf : s.heap.objs.size ∉ [(s.heap.push (emptyObj w)).objs.size, l] := by
            simp only [List.mem_cons, List.mem_singleton, List.not_mem_nil, or_false, not_or]
            rw [hz1]
            exact ⟨Nat.ne_of_lt (Nat.lt_succ_self _), Nat.ne_of_gt hlS⟩
          have hget : ((s.heap.push (emptyObj w)).push { cls := .type "tuple_iterator", data := .fields #[.ref l, .int 0 0] }).get? s.heap.objs.size = some (emptyObj w) := Heap.get?_push_of_some _ hS
          refine fill_loop ((Walks.tuple hh3 _ l hneI items).toS) s.heap.objs.size hSf xs hisz hval (by omega) (items.size - 0) 0 _ [] (by omega) (Nat.zero_le _)
            ⟨⟨_, Heap.get?_push_size _ rfl, rfl, rfl⟩, (hl1.push _)⟩ (setX_fresh hget) (fun x => Iff.rfl) (Nat.le_refl _) ?hR
          case hR =>
            intro s' ys hm hS' hmm hlen
            obtain ⟨h', g', d', tk', os'⟩ := s'
            have eg : g' = s.gens := hm.gens
            have ed : d' = s.drawn := hm.drawn
            have eo : os' = s.os := hm.os
            subst eg; subst ed; subst eo
            show wpAny _ _ _ _ _ _
            refine wpAny_pure ?_
            show wpAny _ _ (ret Value.none) _ _ _
            refine wpAny_pure ⟨rfl, h', tk', ys, rfl, hS', hmm, by omega, fun b o e => ?_⟩
            have hb0 : b < s.heap.objs.size := Heap.lt_size e
            refine hm.heap b o ?_ (Heap.get?_push_of_some _ (Heap.get?_push_of_some _ e))
            simp only [List.mem_cons, List.mem_singleton, List.not_mem_nil, or_false, not_or]
            rw [hz1]
            exact ⟨Nat.ne_of_lt hb0, Nat.ne_of_lt (Nat.lt_succ_of_lt hb0)⟩
      · cases r₂ with
        | error e => exact hr₂
        | ok fl₂ =>
          cases fl₂ with
          | ret r =>
            obtain ⟨rfl, h', tk, ys, rfl, hS', hmm, hlen, hk'⟩ := hr₂
            repeat (any_goals (first | assumption | wp_step))
            exact h _ _ _ hS' hmm hlen hk'
          | _ => exact hr₂.elim
    | _ => exact hr.elim

/-! ### sorted(set) -/
theorem strs_of : ∀ (l : List Value), (∀ v ∈ l, ∃ k tk, v = Value.str k tk) → StrsAre l (l.map strOf)
  | [], _ => .nil
  | v :: l, h => by
    obtain ⟨k, tk, rfl⟩ := h v List.mem_cons_self
    exact .cons k tk (strs_of l fun u hu => h u (List.mem_cons_of_mem _ hu))
theorem sorted_setX {a : Addr} {l : List Str} {Q : Value → Shared → Prop} (R : SetX P w s.heap a l) (hh : A.handled = none) (hlen : l.length + 1 < scanBound)
    (hQ : ∀ s' p (out : Array Value) (c : Nat) (ys : List Str), (∀ b o, s.heap.get? b = some o → s'.heap.get? b = some o) → s'.gens = s.gens → s'.os = s.os → s.heap.objs.size ≤ p →
      s'.heap.get? p = some (seqObj "list" out c) → StrsAre out.toList ys → sortedS ys = true → ys.Perm l → Q (.ref p) s') :
    wpAny (model P w) A (call (.builtin "sorted") [.ref a]) Q E s := by
  obtain ⟨⟨es, ep, t⟩, ho, F, nd, r, hl⟩ := R
  have hf : t.fits es.size = true := F.fit
  have hsz : es.size = l.length := F.sz
  refine Calls.call_function_entry kind_sorted plain_sorted entry_sorted (args_sorted1 _) ?_
  unfold Builtin.«sorted»
  refine wpAny_bind (m := checkCount "sorted" 1 1 _) (wpAny_pure ?_)
  refine wpAny_bind (collect_set (A := A.in1) hh ⟨_, ho, rfl, rfl⟩ hf (by show es.size < scanBound; rw [hsz]; omega) r hl fun s1 vs k1 hz g1 o1 pm => ?_)
  have hvl : vs.length = l.length := by rw [pm.length_eq, List.length_map, Array.length_toList]; exact hsz
  have hst : ∀ v ∈ vs, ∃ k tk, v = Value.str k tk ∧ k ∈ l := fun v hv => by
    obtain ⟨e, he, q⟩ := List.mem_map.mp (pm.mem_iff.mp hv)
    obtain ⟨⟨k, h1, _⟩, _⟩ := F.el e he
    obtain ⟨tk, h2⟩ := Value.isStrOf_shape h1
    exact ⟨k, tk, by rw [← q]; exact h2, (F.mem k).mpr ⟨e, he, h1⟩⟩
  have hI : StrsAre vs (vs.map strOf) := strs_of vs fun v hv => let ⟨k, tk, e, _⟩ := hst v hv; ⟨k, tk, e⟩
  have pk : (vs.map strOf).Perm l := by
    refine (perm_of_sub l (vs.map strOf) nd (fun x hx => ?_) (by rw [List.length_map, hvl])).symm
    obtain ⟨e, he, h1⟩ := (F.mem x).mp hx
    obtain ⟨tk, h2⟩ := Value.isStrOf_shape h1
    exact List.mem_map.mpr ⟨e.2, pm.mem_iff.mpr (List.mem_map.mpr ⟨e, he, rfl⟩), by rw [h2]; rfl⟩
  have hline : vs.length ≤ sizeLine := by
    rw [hvl, sizeLine_eq]
    have z : scanBound = 4096 := rfl
    omega
  refine wpAny_bind (wpAny_newList ?_ hline)
  have hoL : (s1.heap.push (seqObj "list" vs.toArray 0)).get? s1.heap.objs.size = some (seqObj "list" vs.toArray 0) := Heap.get?_push_size _ rfl
  refine wpAny_bind (wpAny_holding (wpAny_call_entry slot_list_sort ⟨_, hoL, rfl⟩ entry_list_sort (list_sort_treeKAny strKind_oneLt hoL hI.keysOf (fun v₁ v₂ rest e => keyKind_strs (by rw [← e]; exact hI)) hline fun st' hp hs => ⟨_, rfl, ?_⟩) (args_list_sort _)))
  obtain ⟨ys, a1, a2, a3⟩ := sorted_out_str hI hp hs
  obtain ⟨c, hc⟩ := sortedHeap_at (vs := vs) (out := (arrOf st').map (·.2)) hoL
  refine wpAny_pure ⟨_, rfl, hQ _ s1.heap.objs.size _ c ys (fun b u e => ?_) g1 o1 hz hc a1 a3 (a2.trans pk)⟩
  have q := k1 b u e
  have hlt := Heap.lt_size q
  show (sortedHeap (s1.heap.push (seqObj "list" vs.toArray 0)) s1.heap.objs.size vs _).get? b = some u
  rw [sortedHeap_old (Nat.ne_of_lt hlt) (by rw [size_push']; exact Nat.lt_succ_of_lt hlt)]
  exact Heap.get?_push_of_some _ q
end

/-! ### over the layer -/
def SetV (P : Program) (w : World) (a : Addr) (l : List Str) : HO := .ext fun h => SetX P w h a l
section
variable {X : Cx}
theorem setV_new {P : Program} {w : World} {H : Hp} {h : Heap} {a : Addr} {l : List Str} (R : SetX P w h a l) : ObjOk P w H h a (SetV P w a l) := by
  have ⟨o, ho, _⟩ := R
  exact ⟨R, ⟨_, ho⟩, fun h1 h2 p k => SetX.at p k⟩
/-- set(xs), xs a list or a tuple of texts -/
def rSetX (K : PySem.W.Frag) (P : Program) (w : World) : List V → Hp → VK → Prop := fun vs H Q => ∃ (a : Addr) (xs : List Str), vs = [V.ref a] ∧ (SqL K H a (xs.map V.str) ∨ SqT K H a (xs.map V.str)) ∧ xs.length < 4000 ∧
  ∀ p ys, H p = none → (∀ x, x ∈ ys ↔ x ∈ xs) → ys.Nodup → ys.length ≤ xs.length → Q (.ref p) (upd H p (SetV P w p ys))
theorem cr_setX (hc : X.calm = true) : CallR X (.type "set") (rSetX X.K X.prog X.w) := by
  intro pins s σ H vs us Q I r h
  obtain ⟨a, xs, rfl, hs, hlen, q⟩ := h
  rw [Vals.ref1 r]
  have hn : H s.heap.objs.size = none := I.hok.fresh (Nat.le_refl _)
  have hz : xs.length + 1 < scanBound := by
    have z : scanBound = 4096 := rfl
    omega
  obtain ⟨its, rv, pl⟩ : ∃ its : List Value, Vals (xs.map V.str) its ∧ (s.heap.IsList a its.toArray ∨ s.heap.IsTuple a its.toArray) := by
    rcases hs with hs | hs
    · obtain ⟨its, rv, pl, _⟩ := I.list hs
      exact ⟨its, rv, .inl pl.isList⟩
    · obtain ⟨its, rv, pl, _⟩ := I.tuple hs
      exact ⟨its, rv, .inr pl⟩
  refine call_set (P := X.prog) (w := X.w) (I.ok.hd hc) pl (by simpa using rv.strs) hz fun h' tk ys R hm hl k => ?_
  have nd : ys.Nodup := by
    obtain ⟨_, _, _, z, _⟩ := R
    exact z
  exact ⟨.ref s.heap.objs.size, upd H s.heap.objs.size (SetV X.prog X.w s.heap.objs.size ys), I.laid (t' := tk) k (Nat.le_refl _) (setV_new R), rfl, q _ ys hn hm nd hl⟩
/-- sorted(a set of texts) -/
def rSortX (P : Program) (w : World) : List V → Hp → VK → Prop := fun vs H Q => ∃ (a : Addr) (l : List Str), vs = [V.ref a] ∧ H a = some (SetV P w a l) ∧ l.length < 4000 ∧
  ∀ ys p, ys.Perm l → sortedS ys = true → H p = none → Q (.ref p) (upd H p (.lst (ys.map V.str)))
theorem cr_sortX (hc : X.calm = true) : CallR X (.builtin "sorted") (rSortX X.prog X.w) := by
  intro pins s σ H vs us Q I r h
  obtain ⟨a, l, rfl, ha, hlen, q⟩ := h
  have R : SetX X.prog X.w s.heap a l := (I.hok a _ ha).1
  rw [Vals.ref1 r]
  have hz : l.length + 1 < scanBound := by
    have z : scanBound = 4096 := rfl
    omega
  refine sorted_setX R (I.ok.hd hc) hz fun s' p out c ys k g o hp hg hi hs pm => ?_
  have hl2 : (ys.map V.str).length ≤ sizeLine := by
    rw [List.length_map, pm.length_eq, sizeLine_eq]
    omega
  have hn : H p = none := I.hok.fresh hp
  have J : Inv X pins σ (upd H p (.lst (ys.map V.str))) { s with heap := s'.heap, gens := s'.gens, drawn := s'.drawn, toks := s'.toks } :=
    I.call (ch := []) (Un.laid k hp hn) (I.hok.laid k hp ⟨hl2, out.toList, c, vals_of_strs hi, hg⟩) (by rw [g]; exact I.bare) (fun _ z => nomatch z)
  have e : s' = { s with heap := s'.heap, gens := s'.gens, drawn := s'.drawn, toks := s'.toks } := by
    cases s'
    cases s
    cases o
    rfl
  rw [e]
  exact ⟨.ref p, _, J, rfl, q ys p pm hs hn⟩
end
end Sx
/-! Calls of the module's own defs by their promises, walks over a list or a tuple, data that stays. -/
namespace Bx
open PySem PySem.Spec PyProof.Rows L2 TL

/-- the module's name x holds a def that keeps sp, by at most level k -/
structure Cal (P : Program) (w : World) (K : PySem.W.Frag) (mg : Str → Option Value) (base : Heap) (x : Str) (k : Nat) (ps : List Str) (sp : Sp) : Prop where
  ex : ∃ (f : Addr) (fd : FuncData), FnOk P w K mg base CX0 k f fd ps sp ∧ mg x = some (.ref f) ∧ PySem.W.keepIn K (.ref f) = true ∧ Binds K fd ps []
/-- the same of a def with a star parameter alone -/
structure CalR (P : Program) (w : World) (K : PySem.W.Frag) (mg : Str → Option Value) (base : Heap) (x : Str) (k : Nat) (sp : Sp) : Prop where
  ex : ∃ f : Addr, FnR P w K mg base CX0 k f sp ∧ mg x = some (.ref f) ∧ PySem.W.keepIn K (.ref f) = true
section
variable {X : Cx} {x : Str} {k : Nat} {ps : List Str} {sp : Sp} {e : Expr} {es : List Expr} {t : TA} {p pos : Pos}
def tCal (sp : Sp) (t : TA) : TE := fun σ H Q => t σ H fun vs H1 => sp vs H1 Q E0
theorem pe_cal (c : Cal X.prog X.w X.K X.mg X.base x k ps sp) (hr : Room k X.A) (ha : PA X (e :: es) t) (hg : Gl X x := by rfl) (hdb : (x == ("__debug__" : Str)) = false := by decide)
    (he : starEach (e :: es) X.env = (false, eval e X.env) :: starEach es X.env := by rfl) (hpl : (backTo pos (starEach es X.env)).any (·.1) = false := by rfl) : PE X (.Call (.Name x p) (e :: es) [] pos) (tCal sp t) := by
  obtain ⟨f, fd, ok, g, kp, b⟩ := c.ex
  have z := pe_call (E := E0) ok hr hg g kp b .nil pass0 ha hdb he hpl (p := p)
  refine ⟨fun pins s σ H Q I h => z.run pins s σ H Q I ?_⟩
  unfold tCall
  simp only [List.append_nil]
  exact h
theorem pe_cal0 (c : Cal X.prog X.w X.K X.mg X.base x k ps sp) (hr : Room k X.A) (hg : Gl X x := by rfl) (hdb : (x == ("__debug__" : Str)) = false := by decide) : PE X (.Call (.Name x p) [] [] pos) (tCal sp tNil) := by
  obtain ⟨f, fd, ok, g, kp, b⟩ := c.ex
  have z := pe_call0 (E := E0) (pos := pos) ok hr hg g kp b .nil pass0 hdb (p := p)
  refine ⟨fun pins s σ H Q I h => z.run pins s σ H Q I ?_⟩
  exact h
theorem pe_calR (c : CalR X.prog X.w X.K X.mg X.base x k sp) (hr : Room k X.A) (ha : PA X (e :: es) t) (hg : Gl X x := by rfl) (hdb : (x == ("__debug__" : Str)) = false := by decide)
    (he : starEach (e :: es) X.env = (false, eval e X.env) :: starEach es X.env := by rfl) (hpl : (backTo pos (starEach es X.env)).any (·.1) = false := by rfl) : PE X (.Call (.Name x p) (e :: es) [] pos) (tCal sp t) := by
  obtain ⟨f, ok, g, kp⟩ := c.ex
  refine ⟨fun pins s σ H Q I h => ?_⟩
  refine wpAny_Call_Name_kw (ld_glob I hg g ?_ hdb)
  refine PySem.W.callWith_K (h₀ := X.base) I.ok.mod.kin kp (thn (ha.run pos pins s σ H _ I h) fun us s1 ⟨vs, H1, I1, r, q⟩ => ⟨I1.kIn, ?_⟩) he hpl
  exact wpAny_call (run_fnR ok hr pass0 I1 r q)
theorem pe_calR0 (c : CalR X.prog X.w X.K X.mg X.base x k sp) (hr : Room k X.A) (hg : Gl X x := by rfl) (hdb : (x == ("__debug__" : Str)) = false := by decide) : PE X (.Call (.Name x p) [] [] pos) (tCal sp tNil) := by
  obtain ⟨f, ok, g, kp⟩ := c.ex
  refine ⟨fun pins s σ H Q I h => ?_⟩
  refine wpAny_Call_Name_kw (ld_glob I hg g ?_ hdb)
  exact PySem.W.callWith_K0 I.kIn kp (wpAny_call (run_fnR ok hr pass0 I .nil h))

/-- x(*y) -/
theorem pe_calS {te : TE} {sp_ : Pos} (c : CalR X.prog X.w X.K X.mg X.base x k sp) (hr : Room k X.A) (he : PE X e te) (hg : Gl X x := by rfl) (hdb : (x == ("__debug__" : Str)) = false := by decide) (hst : starEach [.Starred e sp_] X.env = [(true, eval e X.env)] := by rfl) :
    PE X (.Call (.Name x p) [.Starred e sp_] [] pos) (fun σ H Q => te σ H fun y H1 => ∃ a xs, y = V.ref a ∧ (SqT X.K H1 a xs ∨ SqL X.K H1 a xs) ∧ sp xs H1 Q E0) := by
  obtain ⟨f, ok, g, kp⟩ := c.ex
  exact StX.pe_callS1 ok hr kp hg g pass0 he hdb hst

/-- a walk over a list or a tuple -/
def SeqCase (K : PySem.W.Frag) (a : Addr) (H : Hp) (R : It → Hp → Prop) : Prop := ((∃ xs, SqL K H a xs) ∧ R (Itl K a) H) ∨ ((∃ xs, SqT K H a xs) ∧ R (Itt K a) H)
def iSeq (K : PySem.W.Frag) (tl : TE) : TI := fun σ H R => tl σ H fun x H1 => ∃ a, x = .ref a ∧ SeqCase K a H1 R
theorem pi_seq {tg l : Expr} {tl : TE} (hl : PE X l tl) : PI X tg l (iSeq X.K tl) := by
  refine ⟨fun pins s σ H R I h => ?_⟩
  refine thn (hl.run pins s σ H _ I h) fun v s1 ⟨x, H1, I1, r1, q1⟩ => ?_
  obtain ⟨a, e, q1⟩ := q1
  subst e
  cases r1
  rcases q1 with ⟨⟨xs, hq⟩, q⟩ | ⟨⟨xs, hq⟩, q⟩
  · obtain ⟨its, rv, p, hz⟩ := I1.list hq
    refine wpAny_pyIter_list p.isList ?_
    exact pi_one (tk := s1.toks) I1 _ (turn_list a _) ⟨_, Heap.get?_push_size _ rfl, rfl, rfl⟩ q
  · obtain ⟨its, rv, p, hz⟩ := I1.tuple hq
    refine wpAny_pyIter_tuple (show s1.heap.IsTuple a its.toArray from p) ?_
    exact pi_one (tk := s1.toks) I1 _ (turn_tuple a _) ⟨_, Heap.get?_push_size _ rfl, rfl, rfl⟩ q
end

/-! ### rules with the written part named (within a block) -/
section
variable {X : Cx} {K : PySem.W.Frag}
theorem ix_listK (h : X.K = K) : IxR X (rIxL K) := h ▸ ix_list
theorem ix_tupK (h : X.K = K) : IxR X (rIxT K) := h ▸ ix_tup
theorem op_in_seqK (h : X.K = K) : OpR X (compareOp .In) (rIn K false) := h ▸ op_in_seq
theorem call_list_ofK (h : X.K = K) : CallR X (.type "list") (fun xs H Q => ∃ p ys, xs = [.ref p] ∧ (SqL K H p ys ∨ SqT K H p ys) ∧ ∀ l, H l = none → Q (.ref l) (upd H l (.lst ys))) := by
  subst h
  exact call_list_of
theorem call_tuple_ofK (h : X.K = K) : CallR X (.type "tuple") (fun xs H Q => ∃ p ys, xs = [.ref p] ∧ ((SqL K H p ys ∧ ∀ l, H l = none → Q (.ref l) (upd H l (.tup ys))) ∨ (SqT K H p ys ∧ Q (.ref p) H))) := by
  subst h
  exact call_tuple_of
theorem call_len_seqK (h : X.K = K) : CallR X (.builtin "len") (fun xs H Q => ∃ p ys, xs = [.ref p] ∧ (SqL K H p ys ∨ SqT K H p ys) ∧ Q (.int ys.length) H) := by
  subst h
  exact call_len_seq
theorem cr_allK (h : X.K = K) (hc : X.calm = true) : CallR X (.builtin "all") (rAll K) := by
  subst h
  exact cr_all hc
theorem pg_tupK {es : List Expr} {k : Nat} {t : TGs} {n : Nat} {pos : Pos} (h : X.K = K) (hc : X.calm = true) (hs : PGs X es t)
    (hn : (assignEach es X.env).length = n := by rfl) (hst : (assignEach es X.env).findIdx? (·.1) = none := by rfl) : PG X (.Tuple es k pos) (gTup K n t) := by
  subst h
  exact pg_tup hc hs hn hst
theorem op_notIn_seqK (h : X.K = K) : OpR X (compareOp .NotIn) (rIn K true) := h ▸ op_notIn_seq
end

/-! ### heaps -/
theorem same_new {H : Hp} {p : Addr} {o : HO} (h : H p = none) : Same H (upd H p o) := fun b x e => by
  rw [upd_ne (ne_of_none e h)]
  exact e
theorem same_at {H H2 : Hp} {p : Addr} {o : HO} (h : H p = none) (s : Same H H2) : Same H (upd H2 p o) := fun b x e => by
  rw [upd_ne (ne_of_none e h)]
  exact s b x e
theorem Same.tup {K : PySem.W.Frag} {H H' : Hp} {a : Addr} {xs : List V} (e : Same H H') (h : SqT K H a xs) : SqT K H' a xs := by
  rcases h with (h | ⟨o, h⟩) | h
  · exact .inl (.inl (e _ _ h))
  · exact .inl (.inr ⟨o, e _ _ h⟩)
  · exact .inr h
theorem sq {K : PySem.W.Frag} {H : Hp} {a : Addr} {xs : List V} (h : H a = some (.lst xs)) : SqL K H a xs := Or.inl (Or.inl h)
theorem sqt {K : PySem.W.Frag} {H : Hp} {a : Addr} {xs : List V} (h : H a = some (.tup xs)) : SqT K H a xs := Or.inl (Or.inl h)
/-- all that was tracked but a is as it was -/
def SameBut (a : Addr) (H H' : Hp) : Prop := ∀ b o, b ≠ a → H b = some o → H' b = some o
theorem SameBut.refl (a : Addr) (H : Hp) : SameBut a H H := fun _ _ _ h => h
theorem SameBut.trans {a : Addr} {H H1 H2 : Hp} (x : SameBut a H H1) (y : SameBut a H1 H2) : SameBut a H H2 := fun b o n h => y b o n (x b o n h)
theorem Same.but {a : Addr} {H H' : Hp} (x : Same H H') : SameBut a H H' := fun b o _ h => x b o h
theorem SameBut.upd {a : Addr} {H : Hp} {o : HO} : SameBut a H (upd H a o) := fun b x n h => by
  rw [upd_ne n]
  exact h
/-- new objects do not disturb: what was tracked at H, where a was not -/
theorem SameBut.same {a : Addr} {H H1 H2 : Hp} (x : Same H H1) (n : H a = none) (y : SameBut a H1 H2) : Same H H2 := fun b o h => y b o (ne_of_none h n) (x b o h)
theorem sz {n : Nat} (h : n ≤ 100000) : n ≤ sizeLine := Nat.le_trans h (by decide)
theorem szl {n : Nat} (h : n < 100000) : n < sizeLine := Nat.lt_of_lt_of_le h (by decide)
/-- the source of draws at a -/
def Src (H : Hp) (a : Addr) : Prop := ∃ n c : Int, H a = some (.lst [.int n, .int c])

/-! ### data -/
mutual
theorem dp_same {K : PySem.W.Frag} {H H' : Hp} (e : Same H H') : ∀ {v : V} {d : PyData}, Dp K H v d → Dp K H' v d
  | _, _, .non => .non
  | _, _, .bl b => .bl b
  | _, _, .int i => .int i
  | _, _, .str x => .str x
  | _, _, .lst h a => .lst (e.seq h) (dpAll_same e a)
  | _, _, .tup h a => .tup (Bx.Same.tup e h) (dpAll_same e a)
theorem dpAll_same {K : PySem.W.Frag} {H H' : Hp} (e : Same H H') : ∀ {vs : List V} {ds : List PyData}, DpAll K H vs ds → DpAll K H' vs ds
  | _, _, .nil => .nil
  | _, _, .cons h a => .cons (dp_same e h) (dpAll_same e a)
end
theorem dp_strs {K : PySem.W.Frag} {H : Hp} : ∀ ys : List Str, DpAll K H (ys.map V.str) (ys.map PyData.str)
  | [] => .nil
  | y :: ys => .cons (.str y) (dp_strs ys)
theorem dp_ints {K : PySem.W.Frag} {H : Hp} : ∀ ys : List Int, DpAll K H (ys.map V.int) (ys.map PyData.int)
  | [] => .nil
  | y :: ys => .cons (.int y) (dp_ints ys)
theorem dp_map {K : PySem.W.Frag} {H : Hp} {α : Type} {f : α → V} {g : α → PyData} : ∀ {l : List α}, (∀ x ∈ l, Dp K H (f x) (g x)) → DpAll K H (l.map f) (l.map g)
  | [], _ => .nil
  | x :: l, h => .cons (h x List.mem_cons_self) (dp_map fun y hy => h y (List.mem_cons_of_mem _ hy))

/-! ### walks with any body -/
theorem walk_any {J : It} {n : Nat} {G : Hp → Prop} {Y : Nat → Hp → V → Hp → Prop} (w : Walk J n G Y) {Z : Hp → Prop} {B : (Hp → Prop) → V → Hp → Prop} {H0 : Hp} (Pv : Nat → Hp → Prop) (h0 : Pv 0 H0) (hG : ∀ i H, i ≤ n → Pv i H → G H)
    (hs : ∀ i x H H', i < n → Pv i H → Y i H x H' → B (Pv (i + 1)) x H') (hd : ∀ H, Pv n H → Z H) :
    ∃ W : Nat → Nat → Hp → Prop, (∃ m, W 0 m H0) ∧ ∀ i m H, W i m H → (J.stop i H ∧ Z H) ∨ (J.go i H ∧ ∃ Nx : Hp → Prop, (∀ H', Nx H' → ∃ m', m' < m ∧ W (i + 1) m' H') ∧ ∀ x H', J.yld i H x H' → B Nx x H') := by
  refine ⟨fun i m H => m = n - i ∧ i ≤ n ∧ Pv i H, ⟨n, by simp, Nat.zero_le _, h0⟩, ?_⟩
  rintro i m H ⟨rfl, hi, p⟩
  have q := hG i H hi p
  by_cases hlt : i < n
  · exact .inr ⟨w.goes i H hlt q, Pv (i + 1), fun H' p' => ⟨n - (i + 1), by omega, rfl, hlt, p'⟩, fun x H' y => hs i x H H' hlt p (w.yields i H x H' hlt q y)⟩
  · have e : i = n := by omega
    subst e
    exact .inl ⟨w.stops H q, hd H p⟩

/-! ### a def with a star parameter alone -/
theorem okStar {P : Program} {w : World} {K : PySem.W.Frag} {mg : Str → Option Value} {base : Heap} {x qual pn : Str} {st : Stmt} {f : Addr} {fd : FuncData} {N : List Str} {k : Nat} {sp : Sp} (F : Fun K x qual st f fd) (S : FnScope N [pn] (defScope st))
    (hb : ∀ (kV doc pm : Value) (an : Option Addr) (cdv ct : Value) (rest : List Value), bindArgs (PySem.W.fnOf x qual (defArgs st) (defBody st) (defScope st) .none kV doc pm an cdv ct) ⟨rest, []⟩ = (newTuple rest >>= fun t => pure [(pn, t)]))
    (hbody : ∀ (cdv : Value) (A : Around) (outer : List Env) (s : Shared) (H : Hp) (vs : List V) (Q : VK) (E : XK), Room k (A.deeper (envOfC qual (defScope st) s.heap.objs.size f cdv)) → sp vs H Q E →
      ∃ t, PSs (cxOf CX0 P w K mg base N qual (defScope st) f cdv A outer s H E) (defBody st) t ∧ t { nx := fun _ H' => Q .non H', rt := Q } (start N vs) H) :
    FnR P w K mg base CX0 (k + 1) f (fun vs H Q E => vs.length ≤ sizeLine ∧ ∀ p, H p = none → sp [V.ref p] (upd H p (.tup vs)) Q E) := by
  obtain ⟨oc, od, kV, doc, pm, an, cdv, ct, osl, rfl, lk, hcd⟩ := F.ex
  have z := StX.fn_star (P := P) (w := w) (K := K) (mg := mg) (base := base) (CX := CX0) (ps := []) (sp := sp) lk hcd S StX.cxUp_none (fun us rest hl => by
    have e : us = [] := List.length_eq_zero_iff.mp hl
    subst e
    exact hb kV doc pm an cdv ct rest) (hbody cdv)
  exact z.imp fun vs H Q E h => ⟨[], vs, rfl, rfl, h.1, h.2⟩

/-- one parameter ahead of the star -/
theorem okStar1 {P : Program} {w : World} {K : PySem.W.Frag} {mg : Str → Option Value} {base : Heap} {x qual p1 pn : Str} {st : Stmt} {f : Addr} {fd : FuncData} {N : List Str} {k : Nat} {sp : Sp} (F : Fun K x qual st f fd) (S : FnScope N [p1, pn] (defScope st))
    (h0 : ∀ (kV doc pm : Value) (an : Option Addr) (cdv ct a : Value), bindArgs (PySem.W.fnOf x qual (defArgs st) (defBody st) (defScope st) .none kV doc pm an cdv ct) ⟨[a], []⟩ = (newTuple [] >>= fun t => pure [(p1, a), (pn, t)]))
    (h1 : ∀ (kV doc pm : Value) (an : Option Addr) (cdv ct a r : Value) (rs : List Value), bindArgs (PySem.W.fnOf x qual (defArgs st) (defBody st) (defScope st) .none kV doc pm an cdv ct) ⟨a :: r :: rs, []⟩ = (newTuple (r :: rs) >>= fun t => pure [(p1, a), (pn, t)]))
    (hbody : ∀ (cdv : Value) (A : Around) (outer : List Env) (s : Shared) (H : Hp) (vs : List V) (Q : VK) (E : XK), Room k (A.deeper (envOfC qual (defScope st) s.heap.objs.size f cdv)) → sp vs H Q E →
      ∃ t, PSs (cxOf CX0 P w K mg base N qual (defScope st) f cdv A outer s H E) (defBody st) t ∧ t { nx := fun _ H' => Q .non H', rt := Q } (start N vs) H) :
    FnR P w K mg base CX0 (k + 1) f (fun vs H Q E => ∃ v rest, vs = v :: rest ∧ rest.length ≤ sizeLine ∧ ∀ p, H p = none → sp [v, V.ref p] (upd H p (.tup rest)) Q E) := by
  obtain ⟨oc, od, kV, doc, pm, an, cdv, ct, osl, rfl, lk, hcd⟩ := F.ex
  have z := StX.fn_star (P := P) (w := w) (K := K) (mg := mg) (base := base) (CX := CX0) (ps := [p1]) (sp := sp) lk hcd S StX.cxUp_none
    (StX.bind_star1 (B := fun us => bindArgs (PySem.W.fnOf x qual (defArgs st) (defBody st) (defScope st) .none kV doc pm an cdv ct) ⟨us, []⟩) (h0 kV doc pm an cdv ct) (h1 kV doc pm an cdv ct)) (hbody cdv)
  exact z.imp fun vs H Q E ⟨v, rest, e, hl, h⟩ => ⟨[v], rest, e, rfl, hl, h⟩

/-! ### a walk over a list or a tuple, told once -/
theorem seq_case {K : PySem.W.Frag} {H : Hp} {a : Addr} {xs : List V} {R : It → Hp → Prop} (h : SqL K H a xs ∨ SqT K H a xs) (k : ∀ (J : It) (G : Hp → Prop), Walk J xs.length G (YAt xs) → (∀ H', Same H H' → G H') → R J H) : SeqCase K a H R := by
  rcases h with h | h
  · exact .inl ⟨⟨_, h⟩, k _ _ walk_list fun H' s => s.seq h⟩
  · exact .inr ⟨⟨_, h⟩, k _ _ walk_tup fun H' s => Bx.Same.tup s h⟩
theorem at_map {α : Type} {l : List α} {f : α → V} {i : Nat} {x : V} (h : (l.map f)[i]? = some x) : ∃ y, l[i]? = some y ∧ x = f y := by
  rw [List.getElem?_map] at h
  cases e : l[i]? with
  | none =>
    rw [e] at h
    cases h
  | some y =>
    rw [e] at h
    exact ⟨y, rfl, (Option.some.inj h).symm⟩

/-! ### texts in ascending order -/
theorem rising_at : ∀ (p : Str) (r : List Str), risingS p r = true → ∀ (k : Nat) (x y : Str), (p :: r)[k]? = some x → (p :: r)[k + 1]? = some y → ltCps y.cps.toList x.cps.toList = false
  | p, [], _, k, x, y, _, h2 => by
    simp at h2
  | p, q :: r, h, k, x, y, h1, h2 => by
    have h3 : (!ltCps q.cps.toList p.cps.toList && risingS q r) = true := h
    rw [Bool.and_eq_true] at h3
    cases k with
    | zero =>
      have e1 : p = x := Option.some.inj h1
      have e2 : q = y := Option.some.inj h2
      rw [← e1, ← e2]
      simpa using h3.1
    | succ k => exact rising_at q r h3.2 k x y h1 h2
theorem sorted_at {l : List Str} (h : sortedS l = true) (nd : l.Nodup) {k : Nat} {x y : Str} (h1 : l[k]? = some x) (h2 : l[k + 1]? = some y) : x.cps.toList < y.cps.toList := by
  cases l with
  | nil => cases h1
  | cons p r =>
    have a := rising_at p r h k x y h1 h2
    rw [ltCps_eq] at a
    refine Std.lt_of_le_of_ne (of_decide_eq_false a) fun e => ?_
    have e2 : x = y := ext_tl e
    obtain ⟨i1, e3⟩ := List.getElem?_eq_some_iff.mp h1
    obtain ⟨i2, e4⟩ := List.getElem?_eq_some_iff.mp h2
    have z := List.pairwise_iff_getElem.mp nd k (k + 1) i1 i2 (Nat.lt_succ_self k)
    exact z (e3.trans (e2.trans e4.symm))

/-! ### membership of texts -/
theorem inV_str (x : Str) (ys : List Str) : inV (.str x) (ys.map V.str) = decide (x ∈ ys) := by
  unfold inV
  rw [List.any_map]
  induction ys with
  | nil => rfl
  | cons y ys ih =>
    rw [List.any_cons, ih]
    show ((y == x) || _) = _
    by_cases e : y = x
    · subst e
      simp
    · have e2 : (y == x) = false := by simpa using e
      rw [e2, Bool.false_or]
      by_cases h : x ∈ ys
      · rw [decide_eq_true h, decide_eq_true (List.mem_cons_of_mem _ h)]
      · rw [decide_eq_false h, decide_eq_false (fun z => (List.mem_cons.mp z).elim (fun z => e z.symm) h)]
theorem flat_all (ys : List Str) : (ys.map V.str).all flatV = true := by
  rw [List.all_map, List.all_eq_true]
  intro y _
  rfl
theorem lay_strs : ∀ ys : List Str, (∀ y ∈ ys, PyData.strOk y = true) → PyData.canLayAll0 (ys.map PyData.str) = true ∧ PyData.depthAll (ys.map PyData.str) ≤ 1
  | [], _ => ⟨rfl, by decide⟩
  | y :: ys, h => by
    obtain ⟨a, b⟩ := lay_strs ys fun z hz => h z (List.mem_cons_of_mem _ hz)
    constructor
    · show (PyData.strOk y && PyData.canLayAll0 (ys.map PyData.str)) = true
      rw [a, h y List.mem_cons_self]
      rfl
    · show max (PyData.depth (.str y)) (PyData.depthAll (ys.map PyData.str)) ≤ 1
      exact Nat.max_le.mpr ⟨by first | exact Nat.zero_le _ | decide | exact Nat.le_refl _, b⟩
theorem lay_lists : ∀ L : List (List Str), (∀ ys ∈ L, ∀ y ∈ ys, PyData.strOk y = true) → PyData.canLayAll0 (L.map fun ys => PyData.list (ys.map PyData.str)) = true ∧ PyData.depthAll (L.map fun ys => PyData.list (ys.map PyData.str)) ≤ 2
  | [], _ => ⟨rfl, by decide⟩
  | ys :: L, h => by
    obtain ⟨a, b⟩ := lay_lists L fun z hz => h z (List.mem_cons_of_mem _ hz)
    obtain ⟨c, d⟩ := lay_strs ys (h ys List.mem_cons_self)
    constructor
    · show (PyData.canLayAll0 (ys.map PyData.str) && PyData.canLayAll0 (L.map fun ys => PyData.list (ys.map PyData.str))) = true
      rw [a, c]
      rfl
    · show max (PyData.depthAll (ys.map PyData.str) + 1) (PyData.depthAll (L.map fun ys => PyData.list (ys.map PyData.str))) ≤ 2
      exact Nat.max_le.mpr ⟨by omega, b⟩

/-! ### signs of a written text -/
theorem pick {L : Str} {r : Int} (h0 : 0 ≤ r) (h1 : r < (tl L).length) : ∃ c, atI L.cps.toList r = some c ∧ c ∈ tl L := by
  obtain ⟨n, rfl⟩ := Int.eq_ofNat_of_zero_le h0
  have hn : n < (tl L).length := by omega
  exact ⟨(tl L)[n], atI_nat (List.getElem?_eq_getElem hn), List.getElem_mem hn⟩
end Bx
/-! Data that stands in the heap, beside objects that change; rules told of data. -/
namespace Dx
open PySem PySem.Spec PyProof.Rows L2 Bx TL

/-! ### the heap without some addresses -/
def mn (H : Hp) (S : List Addr) : Hp := fun b => if b ∈ S then none else H b
theorem mn_in {H : Hp} {S : List Addr} {b : Addr} (h : b ∈ S) : mn H S b = none := if_pos h
theorem mn_out {H : Hp} {S : List Addr} {b : Addr} (h : b ∉ S) : mn H S b = H b := if_neg h
theorem mn_same {H : Hp} {S : List Addr} : Same (mn H S) H := fun b o e => by
  by_cases h : b ∈ S
  · rw [mn_in h] at e
    cases e
  · rw [mn_out h] at e
    exact e
theorem mn_nil {H : Hp} : mn H [] = H := funext fun b => mn_out (by simp)
theorem mn_sub {H : Hp} {S T : List Addr} (h : ∀ b, b ∈ S → b ∈ T) : Same (mn H T) (mn H S) := fun b o e => by
  by_cases h1 : b ∈ T
  · rw [mn_in h1] at e
    cases e
  · rw [mn_out h1] at e
    rw [mn_out fun z => h1 (h b z)]
    exact e
theorem mn_upd {H : Hp} {S : List Addr} {a : Addr} {o : HO} (h : a ∈ S) : mn (upd H a o) S = mn H S := funext fun b => by
  by_cases h1 : b ∈ S
  · rw [mn_in h1, mn_in h1]
  · rw [mn_out h1, mn_out h1, upd_ne (show b ≠ a from fun z => h1 (by rw [z]; exact h))]
theorem mn_new {H : Hp} {S : List Addr} {p : Addr} {o : HO} (h : H p = none) : Same (mn H S) (mn (upd H p o) S) := fun b u e => by
  by_cases h1 : b ∈ S
  · rw [mn_in h1] at e
    cases e
  · rw [mn_out h1] at e ⊢
    rw [upd_ne (ne_of_none e h)]
    exact e
theorem mn_but {H H' : Hp} {S : List Addr} {a : Addr} (h : a ∈ S) (s : SameBut a H H') : Same (mn H S) (mn H' S) := fun b u e => by
  by_cases h1 : b ∈ S
  · rw [mn_in h1] at e
    cases e
  · rw [mn_out h1] at e ⊢
    exact s b u (fun z => h1 (z ▸ h)) e
theorem mn_all {H H' : Hp} {S : List Addr} (s : Same H H') : Same (mn H S) (mn H' S) := fun b u e => by
  by_cases h1 : b ∈ S
  · rw [mn_in h1] at e
    cases e
  · rw [mn_out h1] at e ⊢
    exact s b u e
theorem mn_to {H H' : Hp} {S T : List Addr} (h : ∀ b, b ∈ S → b ∈ T) (s : Same (mn H S) (mn H' S)) : Same (mn H T) (mn H' T) := fun b u e => by
  by_cases h1 : b ∈ T
  · rw [mn_in h1] at e
    cases e
  · rw [mn_out h1] at e ⊢
    have z := s b u (by rw [mn_out fun z => h1 (h b z)]; exact e)
    rw [mn_out fun z => h1 (h b z)] at z
    exact z
/-- what is tracked beside S was there, or is new -/
theorem mn_at {H : Hp} {S : List Addr} {b : Addr} {o : HO} (h : b ∉ S) (e : H b = some o) : mn H S b = some o := by
  rw [mn_out h]
  exact e
theorem mn_keep {H H' : Hp} {S : List Addr} (s : Same (mn H S) (mn H' S)) {b : Addr} {o : HO} (h : b ∉ S) (e : H b = some o) : H' b = some o := mn_same _ _ (s _ _ (mn_at h e))
theorem mn_free {H H' : Hp} {S : List Addr} (s : Same (mn H S) (mn H' S)) {b : Addr} (h : b ∉ S) (e : H' b = none) : H b = none := by
  cases z : H b with
  | none => rfl
  | some o =>
    rw [mn_keep s h z] at e
    cases e

/-! ### data -/
section
variable {K : PySem.W.Frag} {H : Hp}
theorem dp_lst {v : V} {ds : List PyData} (h : Dp K H v (.list ds)) : ∃ a xs, v = .ref a ∧ SqL K H a xs ∧ DpAll K H xs ds := by
  cases h with
  | lst s a => exact ⟨_, _, rfl, s, a⟩
theorem dp_tup {v : V} {ds : List PyData} (h : Dp K H v (.tuple ds)) : ∃ a xs, v = .ref a ∧ SqT K H a xs ∧ DpAll K H xs ds := by
  cases h with
  | tup s a => exact ⟨_, _, rfl, s, a⟩
theorem dp_str {v : V} {s : Str} (h : Dp K H v (.str s)) : v = .str s := by cases h; rfl
theorem dp_int {v : V} {i : Int} (h : Dp K H v (.int i)) : v = .int i := by cases h; rfl
theorem da_len : ∀ {xs : List V} {ds : List PyData}, DpAll K H xs ds → xs.length = ds.length
  | _, _, .nil => rfl
  | _, _, .cons _ t => congrArg (· + 1) (da_len t)
theorem da_get : ∀ {xs : List V} {ds : List PyData}, DpAll K H xs ds → ∀ {i : Nat} {d : PyData}, ds[i]? = some d → ∃ v, xs[i]? = some v ∧ Dp K H v d
  | _, _, .nil, i, d, e => by cases e
  | _, _, .cons h t, 0, d, e => by
    cases e
    exact ⟨_, rfl, h⟩
  | _, _, .cons h t, i + 1, d, e => da_get t e
theorem da_at : ∀ {xs : List V} {ds : List PyData}, DpAll K H xs ds → ∀ {i : Nat} {v : V}, xs[i]? = some v → ∃ d, ds[i]? = some d ∧ Dp K H v d
  | _, _, .nil, i, d, e => by cases e
  | _, _, .cons h t, 0, d, e => by
    cases e
    exact ⟨_, rfl, h⟩
  | _, _, .cons h t, i + 1, d, e => da_at t e
theorem da_app : ∀ {xs ys : List V} {ds es : List PyData}, DpAll K H xs ds → DpAll K H ys es → DpAll K H (xs ++ ys) (ds ++ es)
  | _, _, _, _, .nil, h => h
  | _, _, _, _, .cons h t, k => .cons h (da_app t k)
theorem da_one {v : V} {d : PyData} (h : Dp K H v d) : DpAll K H [v] [d] := .cons h .nil
theorem da_strs : ∀ {xs : List V} {ns : List Str}, DpAll K H xs (ns.map PyData.str) → xs = ns.map V.str
  | [], [], _ => rfl
  | [], _ :: _, h => by cases h
  | _ :: _, [], h => by cases h
  | x :: xs, n :: ns, h => by
    cases h with
    | cons h t =>
      rw [dp_str h, da_strs t]
      rfl
theorem da_ints : ∀ {xs : List V} {ns : List Int}, DpAll K H xs (ns.map PyData.int) → xs = ns.map V.int
  | [], [], _ => rfl
  | [], _ :: _, h => by cases h
  | _ :: _, [], h => by cases h
  | x :: xs, n :: ns, h => by
    cases h with
    | cons h t =>
      rw [dp_int h, da_ints t]
      rfl
theorem da_take : ∀ {xs : List V} {ds : List PyData}, DpAll K H xs ds → ∀ n, DpAll K H (xs.take n) (ds.take n)
  | _, _, .nil, n => by
    rw [List.take_nil, List.take_nil]
    exact .nil
  | _, _, .cons h t, 0 => .nil
  | _, _, .cons h t, n + 1 => .cons h (da_take t n)
/-- the strs of a tuple of texts -/
theorem dp_names {v : V} {ns : List Str} (h : Dp K H v (.tuple (ns.map PyData.str))) : ∃ a, v = .ref a ∧ SqT K H a (ns.map V.str) := by
  obtain ⟨a, xs, rfl, s, t⟩ := dp_tup h
  rw [da_strs t] at s
  exact ⟨a, rfl, s⟩
theorem dp_namesL {v : V} {ns : List Str} (h : Dp K H v (.list (ns.map PyData.str))) : ∃ a, v = .ref a ∧ SqL K H a (ns.map V.str) := by
  obtain ⟨a, xs, rfl, s, t⟩ := dp_lst h
  rw [da_strs t] at s
  exact ⟨a, rfl, s⟩
theorem names_dp {a : Addr} {ns : List Str} (h : SqT K H a (ns.map V.str)) : Dp K H (.ref a) (.tuple (ns.map PyData.str)) := .tup h (dp_strs ns)
theorem namesL_dp {a : Addr} {ns : List Str} (h : SqL K H a (ns.map V.str)) : Dp K H (.ref a) (.list (ns.map PyData.str)) := .lst h (dp_strs ns)
end

/-! ### what may be compared: no dicts, not too deep -/
def Lay (n : Nat) (d : PyData) : Prop := d.canLay0 = true ∧ d.depth ≤ n
def Lays (n : Nat) (ds : List PyData) : Prop := PyData.canLayAll0 ds = true ∧ PyData.depthAll ds ≤ n
theorem lays_nil {n : Nat} : Lays n [] := ⟨rfl, Nat.zero_le _⟩
theorem lays_cons {n : Nat} {d : PyData} {ds : List PyData} (h : Lay n d) (t : Lays n ds) : Lays n (d :: ds) := by
  constructor
  · show (d.canLay0 && PyData.canLayAll0 ds) = true
    rw [h.1, t.1]
    rfl
  · show max d.depth (PyData.depthAll ds) ≤ n
    exact Nat.max_le.mpr ⟨h.2, t.2⟩
theorem lays_of {n : Nat} : ∀ {ds : List PyData}, (∀ d ∈ ds, Lay n d) → Lays n ds
  | [], _ => lays_nil
  | d :: ds, h => lays_cons (h d List.mem_cons_self) (lays_of fun x hx => h x (List.mem_cons_of_mem _ hx))
theorem lay_tuple {n : Nat} {ds : List PyData} (h : Lays n ds) : Lay (n + 1) (.tuple ds) := ⟨h.1, Nat.succ_le_succ h.2⟩
theorem lay_list {n : Nat} {ds : List PyData} (h : Lays n ds) : Lay (n + 1) (.list ds) := ⟨h.1, Nat.succ_le_succ h.2⟩
theorem lay_int {n : Nat} {i : Int} : Lay n (.int i) := ⟨rfl, Nat.zero_le _⟩
theorem lay_str {n : Nat} {s : Str} (h : PyData.strOk s = true) : Lay n (.str s) := ⟨h, Nat.zero_le _⟩
theorem lay_up {m n : Nat} {d : PyData} (h : Lay m d) (k : m ≤ n) : Lay n d := ⟨h.1, Nat.le_trans h.2 k⟩
theorem lays_up {m n : Nat} {ds : List PyData} (h : Lays m ds) (k : m ≤ n) : Lays n ds := ⟨h.1, Nat.le_trans h.2 k⟩
theorem lays_mem {n : Nat} : ∀ {ds : List PyData}, Lays n ds → ∀ d ∈ ds, Lay n d
  | d :: ds, h, x, hx => by
    have h1 : (d.canLay0 && PyData.canLayAll0 ds) = true := h.1
    have h2 : max d.depth (PyData.depthAll ds) ≤ n := h.2
    rw [Bool.and_eq_true] at h1
    rw [Nat.max_le] at h2
    rcases List.mem_cons.mp hx with e | e
    · rw [e]
      exact ⟨h1.1, h2.1⟩
    · exact lays_mem ⟨h1.2, h2.2⟩ x e
theorem lays_strs {n : Nat} {ns : List Str} (h : ∀ s ∈ ns, PyData.strOk s = true) : Lays n (ns.map PyData.str) := lays_of fun d hd => by
  obtain ⟨s, hs, rfl⟩ := List.mem_map.mp hd
  exact lay_str (h s hs)
theorem lays_ints {n : Nat} {ns : List Int} : Lays n (ns.map PyData.int) := lays_of fun d hd => by
  obtain ⟨s, _, rfl⟩ := List.mem_map.mp hd
  exact lay_int
theorem shape {n : Nat} {d : PyData} (h : Lay n d) (k : n ≤ 64) : SeqAt.shaped d = true := by
  unfold SeqAt.shaped
  rw [Bool.and_eq_true]
  exact ⟨h.1, decide_eq_true (Nat.le_trans h.2 k)⟩
theorem eq_refl {n : Nat} {d : PyData} (h : Lay n d) : PyData.eqv d d = true := SeqAt.eqv_refl d h.1

/-! ### strict order of lists of texts, and equal lists -/
def Asc (l : List Str) : Prop := l.Pairwise fun x y => x.cps.toList < y.cps.toList
theorem asc_of : ∀ {l : List Str}, sortedS l = true → l.Nodup → Asc l := by
  intro l h nd
  have key : ∀ (d i : Nat) (x y : Str), l[i]? = some x → l[i + (d + 1)]? = some y → x.cps.toList < y.cps.toList := by
    intro d
    induction d with
    | zero => exact fun i x y h1 h2 => sorted_at h nd h1 h2
    | succ d ih =>
      intro i x y h1 h2
      have hl : i + (d + 1) < l.length := by
        have := (List.getElem?_eq_some_iff.mp h2).1
        omega
      have h3 : l[i + (d + 1)]? = some l[i + (d + 1)] := List.getElem?_eq_getElem hl
      exact List.lt_trans (ih i x _ h1 h3) (sorted_at h nd h3 h2)
  refine List.pairwise_iff_getElem.mpr fun i j hi hj hij => ?_
  exact key (j - i - 1) i _ _ (List.getElem?_eq_getElem hi) (by rw [show i + (j - i - 1 + 1) = j by omega]; exact List.getElem?_eq_getElem hj)
theorem asc_nodup {l : List Str} (h : Asc l) : l.Nodup := List.Pairwise.imp (fun {x y} hxy e => by
  rw [e] at hxy
  exact List.lt_irrefl _ hxy) h
theorem asc_eq : ∀ {l m : List Str}, Asc l → Asc m → (∀ x, x ∈ l ↔ x ∈ m) → l = m
  | [], [], _, _, _ => rfl
  | [], y :: m, _, _, h => absurd ((h y).mpr List.mem_cons_self) (by simp)
  | x :: l, [], _, _, h => absurd ((h x).mp List.mem_cons_self) (by simp)
  | x :: l, y :: m, h1, h2, h => by
    obtain ⟨a1, a2⟩ := List.pairwise_cons.mp h1
    obtain ⟨b1, b2⟩ := List.pairwise_cons.mp h2
    have e : x = y := by
      rcases List.mem_cons.mp ((h x).mp List.mem_cons_self) with e | e
      · exact e
      · rcases List.mem_cons.mp ((h y).mpr List.mem_cons_self) with e' | e'
        · exact e'.symm
        · exact absurd (List.lt_trans (a1 y e') (b1 x e)) (List.lt_irrefl _)
    subst e
    have nl : x ∉ l := fun z => List.lt_irrefl _ (a1 x z)
    have nm : x ∉ m := fun z => List.lt_irrefl _ (b1 x z)
    rw [asc_eq a2 b2 fun z => ⟨fun hz => (List.mem_cons.mp ((h z).mp (List.mem_cons_of_mem _ hz))).resolve_left fun e => nl (e ▸ hz), fun hz => (List.mem_cons.mp ((h z).mpr (List.mem_cons_of_mem _ hz))).resolve_left fun e => nm (e ▸ hz)⟩]

/-! ### sorted(xs), xs tuples of ints of one length: some order -/
def rSortRows (K : PySem.W.Frag) : List V → Hp → VK → Prop := fun vs H Q => ∃ (a : Addr) (xs : List V) (d : Nat) (B : Int), vs = [V.ref a] ∧ SqL K H a xs ∧ xs.length < 64 ∧ (∀ x ∈ xs, ∃ ns, TupI K H x ns ∧ ns.length = d ∧ TS.Bd B ns) ∧ (d = 0 → xs.length ≤ 1) ∧
  ∀ (ys : List V) (p : Addr), ys.Perm xs → H p = none → Q (.ref p) (upd H p (.lst ys))
theorem cr_sortRows {X : Cx} : CallR X (.builtin "sorted") (rSortRows X.K) := by
  intro pins s σ H vs us Q I r h
  obtain ⟨a, xs, d, B, rfl, hs, h64, hx, h1, q⟩ := h
  by_cases hd : 1 ≤ d
  · exact cr_sortT hd pins s σ H _ us Q I r ⟨a, xs, rfl, hs, h64, hx, fun ys p pm _ n => q ys p pm n⟩
  · have hl1 : xs.length ≤ 1 := h1 (by omega)
    obtain ⟨its, rv, hl, hz⟩ := I.list hs
    have hlen := rv.length
    rw [Vals.ref1 r]
    refine Srt.sorted_any hl.isList (by rw [← hlen]; exact hz) (fun h2 => absurd h2 (by omega)) fun out hp => ?_
    have e : out = its := by
      match its, hlen, hp with
      | [], _, hp => exact hp.eq_nil
      | [v], _, hp => exact List.perm_singleton.mp hp
      | _ :: _ :: _, hlen, _ =>
        simp only [List.length_cons] at hlen
        omega
    subst e
    obtain ⟨ep, he'⟩ := PyProof.Rows.sortedAll_at s.heap out out.toArray
    exact ⟨.ref _, upd H (s.heap.objs.size + 1) (.lst xs), I.laid (t' := s.toks) (fun _ _ => PyProof.Rows.sortedAll_old) (Nat.le_succ _) ⟨hz, out, ep, rv, by simpa using he'⟩, rfl, q xs _ (List.Perm.refl _) (I.hok.fresh (Nat.le_succ _))⟩

/-! ### the room of a call for a comparison of data -/
theorem room {k : Nat} {A : Around} (r : Room k A) : A.units + 65 < cLine := by
  have := r.un
  omega

/-! ### a list or a tuple of data -/
theorem dp_seq {K : PySem.W.Frag} {H : Hp} {v : V} {ds : List PyData} (h : Dp K H v (.list ds) ∨ Dp K H v (.tuple ds)) : ∃ a xs, v = .ref a ∧ DpAll K H xs ds ∧ (SqL K H a xs ∨ SqT K H a xs) := by
  rcases h with h | h
  · obtain ⟨a, xs, rfl, s, t⟩ := dp_lst h
    exact ⟨a, xs, rfl, t, .inl s⟩
  · obtain ⟨a, xs, rfl, s, t⟩ := dp_tup h
    exact ⟨a, xs, rfl, t, .inr s⟩

/-! ### name = {k: v for ..} -/
section
variable {X : Cx}
theorem ps_setDc {i : Nat} {y : Str} {py : Pos} {kx vx tg iter : Expr} {ifs : List Expr} {scope : Scope} {own : List (Str × Nat)} {pos spos : Pos} {wi : TI} {g : TG} {tt : TT} {tk tv : TE} (hc : X.calm = true) (hN : X.N.Nodup) (hy : X.N[i]? = some y) (hyl : X.env.scope.names.lookup y = some .local)
    (hsw : swapsWith (.DictComp kx vx [⟨tg, iter, ifs, 0⟩] scope pos) (some (.Name y py)) spos.line X.env = pure true) (hi : PI X tg iter wi) (ok : BlkOk X.N X.env.scope scope own)
    (hg : ∀ (s : Shared) (H : Hp) (C : Addr) (cl : List (Str × Addr)) (fp : List Addr), PG (X.blk s H scope (compEnvC scope cl C X.env) fp) tg g) (ht : ∀ (s : Shared) (H : Hp) (C : Addr) (cl : List (Str × Addr)) (fp : List Addr), PTs (X.blk s H scope (compEnvC scope cl C X.env) fp) ifs tt)
    (hk : ∀ (s : Shared) (H : Hp) (C : Addr) (cl : List (Str × Addr)) (fp : List Addr), PE (X.blk s H scope (compEnvC scope cl C X.env) fp) kx tk)
    (he : ∀ (s : Shared) (H : Hp) (C : Addr) (cl : List (Str × Addr)) (fp : List Addr), PE (X.blk s H scope (compEnvC scope cl C X.env) fp) vx tv) (hs : ∀ x, foldedSetIterable iter X.env x = pure x := by intro _; rfl) :
    PS X (.Assign [.Name y py] (.DictComp kx vx [⟨tg, iter, ifs, 0⟩] scope pos) spos) (tAsg (tDc wi g tt tk tv (own.map (·.2))) (gName i)) := by
  refine ⟨fun pins s σ H D I h => ?_⟩
  rw [exec_Assign_Name_used _ _ _ _ hsw]
  refine wpAny_bind (wpAny_standAt (wpAny_bind ?_))
  show wpAny _ X.A (do let _ ← comprehension (.DictComp kx vx [⟨tg, iter, ifs, 0⟩] scope pos) scope X.env _ newDict false (eval iter X.env) (some (assign (.Name y py) X.env))) _ _ s
  have h : tDc wi g tt tk tv (own.map (·.2)) σ H (fun x H1 => gName i x σ H1 D.nx) := h
  refine wpAny_bind (thn (dc_core (Qf := fun _ s' => SP X pins D .next s') hc hN I hi ok hg ht hk he hs h fun L C s' m H' I' q hn f => ?_) fun _ s' hq => wpAny_pure (wpAny_pure hq))
  show wpAny _ _ (assign (.Name y py) X.env (.ref L)) _ _ _
  refine wpAny_assign_Name (store_ok2 (v := V.ref L) I' hN hy (.inl hyl) rfl (fun s2 I2 ⟨a, sb, ha⟩ => ?_) (.inr hyl))
  obtain ⟨f0, f1, f2, f3, f4, f5⟩ := f
  have haC : C ≠ a := by
    rcases ha with z | z
    · rw [z]; exact f1
    · exact fun e => f4 y a z e.symm
  refine ⟨m, hn.sameBut sb haC, fun h3 sb3 => ?_⟩
  exact ⟨_, H', I2.turned (t' := s2.toks) (fun b o hb e => (sb3.2 b hb).trans e) f0 f1 f3 f4 f5, q⟩
theorem sw_trueD {kx vx : Expr} {gs : List Comprehension} {scope : Scope} {pos py : Pos} {y : Str} {l : Nat} {env : Env} (hk : env.scope.kind = .function) (hy : env.scope.names.lookup y = some .local) (hl : (py.line == pos.line) = true)
    (ha : (scope.names.any fun (n, k) => n == y && (k == .local || k == .cell)) = false) : swapsWith (.DictComp kx vx gs scope pos) (some (.Name y py)) l env = pure true := by
  have ky : env.kindOf y = some .local := hy
  have hb : env.blockKind = .function := by unfold Env.blockKind; rw [hk]; rfl
  unfold swapsWith
  simp only [hb, ky, ha, Expr.pos, hl]
  rfl
end
end Dx
/-! Own errors with one field, whose __init__ says super().__init__(f'..'). -/
namespace Er
open PySem PySem.Spec PyProof.Rows L2 Bx TL Dx Sup NdefX
/-- __init__(self, y): the error at a gets a dict with f = y -/
def spErr (ok : V → Prop) (C : Addr) (f : Str) : Sp := fun vs H Q _ => ∃ (a : Addr) (v : V), vs = [.ref a, v] ∧ ok v ∧ H a = some (exo a C none) ∧
  ∀ (d : Addr) (H' : Hp), (∀ b o, b ≠ a → H b = some o → H' b = some o) → H d = none → d ≠ a → H' a = some (exo a C (some d)) → H' d = some (exd d [(f, v)]) → Q .non H'
/-- the class at C, named x: an own error over ValueError with one field -/
structure Err (P : Program) (w : World) (K : PySem.W.Frag) (mg : Str → Option Value) (base : Heap) (x : Str) (C : Addr) (f y : Str) (ok : V → Prop) (k : Nat) : Prop where
  init : ∃ (fI : Addr) (fd : FuncData), PySem.W.findIn K (.ref C) "__init__" = some (some (.ref fI)) ∧ PySem.W.typeIn K (.ref fI) = some (.type "function") ∧ FnOk P w K mg base CX0 k fI fd ["self", y] (spErr ok C f) ∧ Binds K fd ["self", y] []
  exc : OexC K C
  g : mg x = some (.ref C)
  te : PySem.W.exmOne K (.ref C) (.ref C) = some true
  xf : XfC K C
  no : PySem.W.findIn K (.ref C) f = some none
section
variable {X : Cx} {x : Str} {C : Addr} {f y : Str} {ok : V → Prop} {k : Nat} {e : Expr} {te : TE} {p pos pos' : Pos} {W : WX}
theorem ps_raiseE (c : Err X.prog X.w X.K X.mg X.base x C f y ok k) (hc : X.calm = true) (tk : Takes X W) (hr : Room (k + 1) X.A) (he : PE X e te) (hg : Gl X x := by rfl) (hdb : (x == ("__debug__" : Str)) = false := by decide)
    (hst : starEach [e] X.env = (false, eval e X.env) :: starEach [] X.env := by rfl) (hpl : (backTo pos (starEach [] X.env)).any (·.1) = false := by rfl) :
    PS X (.Raise (some (.Call (.Name x p) [e] [] pos)) none pos') (fun _ σ H => te σ H fun v H1 => ok v ∧ ∀ d H3, Same H1 H3 → H1 d = none → H3 d = some (.xd [(f, v)]) → W (.ref C) (some d) σ H3) := by
  obtain ⟨fI, fd, iC, tI, F1, hb⟩ := c.init
  have he2 : PE X e (fun σ H Q => ∃ R : VK, te σ H R ∧ ∀ v H1, R v H1 → Q v H1) := ⟨fun pins s σ H Q I ⟨R, h, hR⟩ => thn (he.run pins s σ H R I h) fun v s1 ⟨x, H1, I1, r, q⟩ => ⟨x, H1, I1, r, hR _ _ q⟩⟩
  have z := ps_raise (pos := pos') hc tk (pmk_oex (pos := pos) (p := p) (dvs := []) c.exc iC tI F1 hr hb .nil (pass0) hg c.g (pa_cons he2 pa_nil hst) hdb hst hpl)
  refine ⟨fun pins s σ H D I h => z.run pins s σ H D I ?_⟩
  refine ⟨_, h, fun v H1 hq => ?_⟩
  obtain ⟨hok, hw⟩ := hq
  refine ⟨by show 1 ≤ 1000; decide, fun a na => ⟨a, v, rfl, hok, upd_same, fun d H' keep nd da ea ed => ?_⟩⟩
  have nd1 : H1 d = none := by
    rw [upd_ne da] at nd
    exact nd
  refine ⟨rfl, d, _, ea, ed, nd1, hw d _ (fun b o e => ?_) nd1 upd_same⟩
  have ba : b ≠ a := ne_of_none e na
  rw [upd_ne (ne_of_none e nd1), del_ne ba]
  exact keep b o ba (by rw [upd_ne ba]; exact e)
end
/-! ### isinstance of an error with a dict -/
def rIsD (K : PySem.W.Frag) (a : Addr) (cls : Value) (d : Option Addr) : List V → Hp → VK → Prop := fun xs H Q => ∃ (D dd : Addr) (c : V) (cv : Value) (b : Bool) (fs : List (Str × V)), xs = [.ref a, c] ∧ cls = .ref D ∧ d = some dd ∧ (PySem.W.clsIn K D).isSome = true ∧ ExcC K D ∧
  H dd = some (.xd fs) ∧ (∀ u, RelV c u → u = cv) ∧ PySem.W.kitOne K (.ref D) cv = some b ∧ Q (.bl b) H
theorem call_isD {X : Cx} {a : Addr} {cls : Value} {d : Option Addr} {oe : Obj} {pn : List (Addr × Obj)} (hz : Zc cls d oe) (hf : ∃ vs, oe.data = .fields vs) : CallR (X.suite a ((a, oe) :: pn)) (.builtin "isinstance") (rIsD X.K a cls d) := by
  intro pins s σ H xs us Q I r h
  obtain ⟨D, dd, c, cv, b, fs, rfl, rfl, rfl, hcl, C, hdd, hcv, e, q⟩ := h
  cases r with
  | cons rx rr =>
    cases rr with
    | cons rt rr =>
      cases rr
      cases rx
      have ec := hcv _ rt
      subst ec
      obtain ⟨hget, _⟩ := I.pin (a, oe) (List.mem_append.mpr (.inl List.mem_cons_self))
      obtain ⟨vs, hv⟩ := hf
      obtain ⟨oD, hD⟩ : ∃ o, s.heap.get? dd = some o := by
        obtain ⟨mA, hn, _⟩ := I.hok dd _ hdd
        obtain ⟨o, _, _, e, _⟩ := hn
        exact ⟨o, e⟩
      have J : PySem.W.InstAt s.heap a oe D (some oD) := by
        obtain ⟨oc, od, oda, osl⟩ := oe
        obtain ⟨h1, h2⟩ := hz
        dsimp only at h1 h2 hv
        subst h1 h2 hv
        exact ⟨hget, rfl, rfl, hD⟩
      exact PySem.W.kia_one (PySem.W.kitx_exc hcl C.hg C.hk C.hs C.ha C.hn C.ht C.hm) I.kIn J e (fun z => nomatch z) fun tk => ⟨.bl b, H, I.kept (t' := tk) fun _ _ z => z, rfl, q⟩
/-! ### calls of defs that may raise -/
section
variable {X : Cx} {CX : CXT} {k n : Nat} {f : Addr} {fd : FuncData} {ps ks : List Str} {sp : Sp} {E : L2.St → XK} {x : Str} {p pos : Pos} {e : Expr} {es : List Expr} {kws : List Keyword} {t tk : TA} {g : List Value → List Value → List Value} {gV : List V → List V → List V}
theorem run_fnNS {pins : List (Addr × Obj)} {σ : L2.St} {H : Hp} {s : Shared} {Q : VK} {us ws : List Value} {vs zs : List V} (F : FnOk X.prog X.w X.K X.mg X.base CX k f fd ps sp) (hr : Room k X.A) (hb : KBn X.K fd ps n ks g gV) (hx : PassesAt CX X σ (E σ))
    (I : Inv X pins σ H s) (r : Vals vs us) (rz : Vals zs ws) (l1 : vs.length = n) (l2 : zs.length = ks.length) (h : sp (gV vs zs) H Q (E σ)) : wpAny (model X.prog X.w) X.A (call (.ref f) us (ks.zip ws)) (EP X pins σ Q) X.xe s := by
  refine wpAny_call (codeAny_mono (F.run X.A X.stack s H ⟨us, ks.zip ws⟩ (g us ws) (gV vs zs) Q (E σ) hr I.env0 (hb.to s us ws I.kIn (by rw [← r.length]; exact l1) (by rw [← rz.length]; exact l2)) (hb.rel r rz) h) fun r s' hq => ?_)
  cases r with
  | error e => exact hx pins H s e s' I hq
  | ok fl =>
    cases fl with
    | ret u => exact I.after hq
    | next => exact False.elim hq
    | brk => exact False.elim hq
    | cont => exact False.elim hq
def tCallNS (n m : Nat) (sp : Sp) (gV : List V → List V → List V) (E : L2.St → XK) (t tk : TA) : TE := fun σ H Q => t σ H fun vs H1 => tk σ H1 fun zs H2 => vs.length = n ∧ zs.length = m ∧ sp (gV vs zs) H2 Q (E σ)
theorem pe_callNS (F : FnOk X.prog X.w X.K X.mg X.base CX k f fd ps sp) (hr : Room k X.A) (hg : Gl X x) (hm : X.mg x = some (.ref f)) (hk : PySem.W.keepIn X.K (.ref f) = true) (hb : KBn X.K fd ps n ks g gV) (hx : ∀ σ, PassesAt CX X σ (E σ))
    (ha : PA X (e :: es) t) (hkw : PK X kws tk) (hall : (backToKw pos (keywordEach kws X.env)).all (·.1.isSome) = true := by rfl) (hks : (backToKw pos (keywordEach kws X.env)).filterMap (·.1) = ks := by rfl)
    (hdb : (x == ("__debug__" : Str)) = false := by decide) (he : starEach (e :: es) X.env = (false, eval e X.env) :: starEach es X.env := by rfl)
    (hpl : ((backTo pos (starEach (e :: es) X.env)).any (·.1) || (backToKw pos (keywordEach kws X.env)).any (·.1.isNone)) = false := by rfl) :
    PE X (.Call (.Name x p) (e :: es) kws pos) (tCallNS n ks.length sp gV E t tk) := by
  refine ⟨fun pins s σ H Q I h => ?_⟩
  refine wpAny_Call_Name_kw (ld_glob I hg hm ?_ hdb)
  refine PySem.W.callWith_KW (h₀ := X.base) I.ok.mod.kin hk hall (thn (ha.run pos pins s σ H _ I h) fun us s1 ⟨vs, H1, I1, r, q⟩ => ?_) hpl he
  refine thn (hkw.run pos pins s1 σ H1 _ I1 q) fun ws s2 ⟨zs, H2, I2, rz, l1, l2, q2⟩ => ⟨I2.kIn, ?_⟩
  rw [hks]
  exact run_fnNS F hr hb (hx σ) I2 r rz l1 l2 q2
/-- the module's name x holds a def of one parameter and a keyword-only one with a default; it may raise -/
structure CalX (P : Program) (w : World) (K : PySem.W.Frag) (mg : Str → Option Value) (base : Heap) (x y : Str) (k : Nat) (ps : List Str) (dv : V) (sp : Sp) : Prop where
  ex : ∃ (f : Addr) (fd : FuncData), FnOk P w K mg base (L2.CX P w) k f fd ps sp ∧ mg x = some (.ref f) ∧ PySem.W.keepIn K (.ref f) = true ∧ (∃ ds, Vals [dv] ds ∧ Binds K fd ps ds) ∧ KBn K fd ps 1 [y] (fun us ws => us ++ ws) (fun vs zs => vs ++ zs)
variable {y : Str} {dv : V} {W : WX} {tk1 : TA}
def tCalX (sp : Sp) (dv : V) (W : WX) (t : TA) : TE := fun σ H Q => t σ H fun vs H1 => sp (vs ++ [dv]) H1 Q (fun cls d H' => W cls d σ H')
def tCalXK (sp : Sp) (W : WX) (t tk : TA) : TE := fun σ H Q => t σ H fun vs H1 => tk σ H1 fun zs H2 => vs.length = 1 ∧ zs.length = 1 ∧ sp (vs ++ zs) H2 Q (fun cls d H' => W cls d σ H')
theorem pe_calX (c : CalX X.prog X.w X.K X.mg X.base x y k ps dv sp) (tkW : Takes X W) (hr : Room k X.A) (ha : PA X (e :: es) t) (hg : Gl X x := by rfl) (hdb : (x == ("__debug__" : Str)) = false := by decide)
    (he : starEach (e :: es) X.env = (false, eval e X.env) :: starEach es X.env := by rfl) (hpl : (backTo pos (starEach es X.env)).any (·.1) = false := by rfl) : PE X (.Call (.Name x p) (e :: es) [] pos) (tCalX sp dv W t) := by
  obtain ⟨f, fd, ok, hm, kp, ⟨ds, hv, hb⟩, _⟩ := c.ex
  have z := pe_callSD (E := fun σ cls d H' => W cls d σ H') ok hr hg hm kp hb hv (fun σ => passAt tkW σ) ha hdb he hpl (p := p)
  exact ⟨fun pins s σ H Q I h => z.run pins s σ H Q I h⟩
theorem pe_calXK (c : CalX X.prog X.w X.K X.mg X.base x y k ps dv sp) (tkW : Takes X W) (hr : Room k X.A) (ha : PA X (e :: es) t) (hkw : PK X kws tk1) (hg : Gl X x := by rfl) (hall : (backToKw pos (keywordEach kws X.env)).all (·.1.isSome) = true := by rfl) (hks : (backToKw pos (keywordEach kws X.env)).filterMap (·.1) = [y] := by rfl)
    (hdb : (x == ("__debug__" : Str)) = false := by decide) (he : starEach (e :: es) X.env = (false, eval e X.env) :: starEach es X.env := by rfl)
    (hpl : ((backTo pos (starEach (e :: es) X.env)).any (·.1) || (backToKw pos (keywordEach kws X.env)).any (·.1.isNone)) = false := by rfl) : PE X (.Call (.Name x p) (e :: es) kws pos) (tCalXK sp W t tk1) := by
  obtain ⟨f, fd, ok, hm, kp, _, hb⟩ := c.ex
  have z := pe_callNS (E := fun σ cls d H' => W cls d σ H') ok hr hg hm kp hb (fun σ => passAt tkW σ) ha hkw hall hks hdb he hpl (p := p)
  exact ⟨fun pins s σ H Q I h => z.run pins s σ H Q I h⟩
end
end Er
/-! zip of two tuples, walked; great products and quotients; xs[::-1]. -/
namespace Zx
open PySem PySem.Spec PyProof.Rows L2 Bx TL Dx
theorem walk_zipT {K : PySem.W.Frag} {a b : Addr} {xs ys : List V} {n : Nat} (hn : n = min xs.length ys.length) : Walk (RZ.ItzT K a b) n (fun H => SqT K H a xs ∧ SqT K H b ys) (YPair (fun i => xs[i]?) (fun i => ys[i]?)) := by
  subst hn
  refine ⟨fun i _ hi q => ?_, fun _ q => ⟨xs, ys, q.1, q.2, by omega⟩, fun i H v H' _ q y => ?_⟩
  · have h1 : i < xs.length := by omega
    have h2 : i < ys.length := by omega
    exact ⟨xs, ys, xs[i], ys[i], q.1, q.2, by simp [h1], by simp [h2]⟩
  · obtain ⟨T, x, z, h1, h2, h3, h4, h5⟩ := y
    exact ⟨T, x, z, h1, h2, h3, h4 xs q.1, h5 ys q.2⟩
end Zx
namespace Zx
open PySem PySem.Spec PyProof.Rows L2
theorem ne_t {p : Prop} [Decidable p] (h : (!decide p) = true) : ¬ p := by simpa using h
theorem ne_f {p : Prop} [Decidable p] (h : ¬ (!decide p) = true) : p := by simpa using h
theorem int_t {x y : Int} (h : decide (V.int x = V.int y) = true) : x = y := V.int.inj (of_decide_eq_true h)
theorem int_f {x y : Int} (h : ¬ decide (V.int x = V.int y) = true) : x ≠ y := fun e => h (decide_eq_true (congrArg V.int e))
theorem int_nt {x y : Int} (h : (!decide (V.int x = V.int y)) = true) : x ≠ y := fun e => ne_t h (congrArg V.int e)
theorem int_nf {x y : Int} (h : ¬ (!decide (V.int x = V.int y)) = true) : x = y := V.int.inj (ne_f h)
end Zx
namespace Zx
open PySem PySem.Spec PyProof.Rows L2 Bx
section
variable {K : PySem.W.Frag}
theorem ty_tup {H : Hp} {a : Addr} {xs : List V} (h : SqT K H a xs) : TyX K H (.ref a) (.type "tuple") := by
  rcases h with (h | ⟨o, h⟩) | h
  · exact .base (.tup h)
  · exact .fTuple h
  · obtain ⟨o, its, n, h1, h2, _⟩ := h
    exact .kTuple h1 h2
def spRight : Sp := fun vs H Q _ => ∃ a : Addr, vs = [.ref a] ∧ Src H a ∧ ∀ H', SameBut a H H' → Q (.bl true) H'
end
end Zx
namespace Zx
open PySem PySem.Spec PyProof.Rows L2 Bx
theorem cont_of {α : Type} {R X : α → Prop} {G : Prop} (first : (∀ a, R a → X a) → G) (rest : ∀ a, R a → X a) : G := first rest
theorem cont_of2 {α β : Type} {R X : α → β → Prop} {G : Prop} (first : (∀ a b, R a b → X a b) → G) (rest : ∀ a b, R a b → X a b) : G := first rest
theorem but_new {a : Addr} {H H3 : Hp} {p : Addr} {o : HO} (h : H p = none) (s : SameBut a (upd H p o) H3) : SameBut a H H3 := fun b x n e => s b x n (by rw [upd_ne (ne_of_none e h)]; exact e)
theorem but_at {a : Addr} {H H2 : Hp} {p : Addr} {o : HO} (h : H p = none) (s : SameBut a H H2) : SameBut a H (upd H2 p o) := fun b x n e => by
  rw [upd_ne (ne_of_none e h)]
  exact s b x n e
theorem src_same {a : Addr} {H1 H2 : Hp} (s : Src H1 a) (t : Same H1 H2) : Src H2 a := by
  obtain ⟨n, c, h⟩ := s
  exact ⟨n, c, t _ _ h⟩
theorem src_ne {a o : Addr} {H : Hp} (s : Src H a) (h : H o = none) : a ≠ o := by
  obtain ⟨n, c, z⟩ := s
  exact ne_of_none z h
theorem but_free {a o : Addr} {H H1 : Hp} (s : SameBut a H H1) (n : o ≠ a) (h : H1 o = none) : H o = none := by
  cases e : H o with
  | none => rfl
  | some x =>
    rw [s o x n e] at h
    cases h
theorem src_upd {a o : Addr} {H : Hp} {u : HO} (s : Src H a) (n : a ≠ o) : Src (upd H o u) a := by
  obtain ⟨x, c, h⟩ := s
  exact ⟨x, c, by rw [upd_ne n]; exact h⟩

end Zx
namespace Zx
open PySem PySem.Spec PyProof.Rows L2 Bx
theorem set_same {σ : L2.St} {i : Nat} {v : V} (h : σ[i]? = some (some v)) : σ.set i (some v) = σ := by
  obtain ⟨hi, e⟩ := List.getElem?_eq_some_iff.mp h
  rw [← e]
  exact List.set_getElem_self hi
/-- if c: name = e -/
theorem if_asg {c : Prop} [Decidable c] {te : TE} {i : Nat} {D : Ends} {σ : L2.St} {H : Hp} {old : V} (R : V → Hp → Prop) (hi : σ[i]? = some (some old))
    (h1 : c → ∀ Z : V → Hp → Prop, (∀ v H', R v H' → Z v H') → te σ H Z) (h2 : ¬ c → R old H) (rest : ∀ v H', R v H' → D.nx (σ.set i (some v)) H') : if c then tAsg te (gName i) D σ H else tNext D σ H := by
  split
  · rename_i h
    exact h1 h (fun v H' => D.nx (σ.set i (some v)) H') rest
  · rename_i h
    have := rest old H (h2 h)
    rw [set_same hi] at this
    exact this
/-- if c: name = e else: name = f -/
theorem if_asg2 {c : Prop} [Decidable c] {te tf : TE} {i : Nat} {D : Ends} {σ : L2.St} {H : Hp} (R : V → Hp → Prop)
    (h1 : c → ∀ Z : V → Hp → Prop, (∀ v H', R v H' → Z v H') → te σ H Z) (h2 : ¬ c → ∀ Z : V → Hp → Prop, (∀ v H', R v H' → Z v H') → tf σ H Z) (rest : ∀ v H', R v H' → D.nx (σ.set i (some v)) H') : if c then tAsg te (gName i) D σ H else tAsg tf (gName i) D σ H := by
  split
  · rename_i h
    exact h1 h (fun v H' => D.nx (σ.set i (some v)) H') rest
  · rename_i h
    exact h2 h (fun v H' => D.nx (σ.set i (some v)) H') rest
end Zx
/-! Own classes: methods that operators and built-ins call. -/
namespace Ow
open PySem PySem.Spec PyProof.Rows L2 Bx TL Dx Zx
/-- the class at C (or one above it) has the method m, a def that keeps sp -/
structure OwM (P : Program) (w : World) (K : PySem.W.Frag) (mg : Str → Option Value) (base : Heap) (CX : CXT) (C : Addr) (m : Str) (k : Nat) (ps : List Str) (sp : Sp) : Prop where
  ex : ∃ (f : Addr) (fd : FuncData), FnOk P w K mg base CX k f fd ps sp ∧ PySem.W.findIn K (.ref C) m = some (some (.ref f)) ∧ PySem.W.isFn K (.ref f) = true ∧ PySem.W.keepIn K (.ref f) = true ∧ Binds K fd ps []
section
variable {X : Cx} {pins : List (Addr × Obj)} {σ : L2.St} {H : Hp} {s : Shared} {C a dx : Addr} {fs : List (Str × V)}
/-- an instance as the library's operators see it -/
theorem inst_of (I : Inv X pins σ H s) (e : H a = some (.ins C dx fs)) : ∃ od, PySem.W.InstAt s.heap a (PySem.W.instObj C dx) C (some od) := by
  obtain ⟨mA, J, _⟩ := ins_get I.hok e
  obtain ⟨od, J2, _⟩ := J.look
  exact ⟨od, J2⟩
/-- a def is called, somewhere within -/
theorem call_at {CX : CXT} {k : Nat} {f : Addr} {fd : FuncData} {ps : List Str} {sp : Sp} {A1 : Around} {us : List Value} {vs : List V} {Q : VK} {E : XK} {E1 : Value → Shared → Prop} (sb : Sub X k A1) (ok : FnOk X.prog X.w X.K X.mg X.base CX k f fd ps sp) (b : Binds X.K fd ps [])
    (I : Inv X pins σ H s) (r : Vals vs us) (hsp : sp vs H Q E) (hx : ∀ e s', CX X.stack H s E e s' → E1 e s') : wpAny (model X.prog X.w) A1 (call (.ref f) us) (EP X pins σ Q) E1 s := by
  have z0 := I.env0
  have e0 : Env0 X.prog X.w X.K X.mg X.base A1 X.stack s H := ⟨by rw [sb.fr]; exact z0.frames, z0.mod, z0.bs, z0.bsz, z0.funs, z0.frf, z0.hok, z0.bare⟩
  have n1 := ok.len _ _ _ _ hsp
  have n2 : us.length = ps.length := by rw [← r.length]; exact n1
  have bb := b s us I.kIn (by rw [List.append_nil]; exact n2)
  rw [List.append_nil] at bb
  refine wpAny_call (codeAny_mono (ok.run A1 X.stack s H ⟨us, []⟩ us vs Q E sb.room e0 bb r hsp) fun res s' back => ?_)
  match res, back with
  | .error e, back => exact hx e s' back
  | .ok (.ret u), back => exact I.after back
  | .ok .next, back => exact back.elim
  | .ok .brk, back => exact back.elim
  | .ok .cont, back => exact back.elim
theorem sub_self {n : Nat} (hr : Room n X.A) : Sub X n X.A := ⟨hr, rfl⟩
/-- len(o) -/
def rLenO (C : Addr) (sp : Sp) : List V → Hp → VK → Prop := fun xs H Q => ∃ a dx fs, xs = [.ref a] ∧ H a = some (.ins C dx fs) ∧ sp [.ref a] H (fun v H' => ∃ n : Nat, v = .int (n : Int) ∧ n < 2 ^ 62 ∧ Q (.int (n : Int)) H') E0
theorem call_lenO {k : Nat} {ps : List Str} {sp : Sp} (c : OwM X.prog X.w X.K X.mg X.base CX0 C "__len__" k ps sp) (hr : Room (k + 1) X.A) : CallR X (.builtin "len") (rLenO C sp) := by
  intro pins s σ H xs us Q I r h
  obtain ⟨a, dx, fs, rfl, ha, hsp⟩ := h
  obtain ⟨f, fd, ok, hs, hf, _, hb⟩ := c.ex
  obtain ⟨od, J⟩ := inst_of I ha
  obtain ⟨m, hF⟩ := I.fr
  have r0 := r
  cases r with
  | cons r1 r2 =>
    cases r2
    cases r1
    refine PySem.W.len_K hF I.ok.mod.kin J hs hf ?_
    refine wpAny_mono (call_at ((sub_self hr).in1) ok hb I r0 hsp (fun e s' z => z.elim)) (fun u s' hu => ?_) (fun _ _ z => z)
    obtain ⟨v, H', I', rv, n, rfl, hn, hq⟩ := hu
    obtain ⟨t, rfl⟩ := rv
    exact ⟨⟨by omega, by omega⟩, .int n, H', I'.tok _, ⟨_, rfl⟩, hq⟩
/-- x in o, x not in o -/
def rInO (C : Addr) (sp : Sp) (neg : Bool) : V → V → Hp → VK → Prop := fun x y H Q => ∃ a dx fs, y = .ref a ∧ H a = some (.ins C dx fs) ∧ sp [.ref a, x] H (fun v H' => ∃ b : Bool, v = .bl b ∧ Q (.bl (b != neg)) H') E0
theorem truth_bl {M : Model} {A : Around} {E : Value → Shared → Prop} {s : Shared} {b : Bool} {Q : Bool → Shared → Prop} (h : Q b s) : wpAny M A (truthy (.bool b)) Q E s := by
  unfold truthy
  exact wpAny_pure h
theorem op_inO {k : Nat} {ps : List Str} {sp : Sp} (c : OwM X.prog X.w X.K X.mg X.base CX0 C "__contains__" k ps sp) (hr : Room k X.A) : OpR X (compareOp .In) (rInO C sp false) := by
  intro pins s σ H x y u v Q I rx ry h
  obtain ⟨a, dx, fs, rfl, ha, hsp⟩ := h
  obtain ⟨f, fd, ok, hs, hf, _, hb⟩ := c.ex
  obtain ⟨od, J⟩ := inst_of I ha
  obtain ⟨m, hF⟩ := I.fr
  cases ry
  refine PySem.W.in_K hF I.ok.mod.kin J hs hf ?_
  refine wpAny_mono (call_at (sub_self hr) ok hb I (vs := [.ref a, x]) (.cons rfl (.cons rx .nil)) hsp (fun e s' z => z.elim)) (fun u s' hu => ?_) (fun _ _ z => z)
  obtain ⟨v, H', I', rv, b, rfl, hq⟩ := hu
  cases rv
  refine truth_bl ⟨.bl b, H', I', rfl, ?_⟩
  rw [show (b != false) = b by cases b <;> rfl] at hq
  exact hq
theorem op_notInO {k : Nat} {ps : List Str} {sp : Sp} (c : OwM X.prog X.w X.K X.mg X.base CX0 C "__contains__" k ps sp) (hr : Room k X.A) : OpR X (compareOp .NotIn) (rInO C sp true) := by
  intro pins s σ H x y u v Q I rx ry h
  obtain ⟨a, dx, fs, rfl, ha, hsp⟩ := h
  obtain ⟨f, fd, ok, hs, hf, _, hb⟩ := c.ex
  obtain ⟨od, J⟩ := inst_of I ha
  obtain ⟨m, hF⟩ := I.fr
  cases ry
  refine PySem.W.notIn_K hF I.ok.mod.kin J hs hf ?_
  refine wpAny_mono (call_at (sub_self hr) ok hb I (vs := [.ref a, x]) (.cons rfl (.cons rx .nil)) hsp (fun e s' z => z.elim)) (fun u s' hu => ?_) (fun _ _ z => z)
  obtain ⟨v, H', I', rv, b, rfl, hq⟩ := hu
  cases rv
  refine truth_bl ⟨.bl (!b), H', I', rfl, ?_⟩
  rw [show (b != true) = !b by cases b <;> rfl] at hq
  exact hq
end
end Ow
/-! Own classes: o[i], o op x, loops over o. -/
namespace Ow
open PySem PySem.Spec PyProof.Rows L2 Bx TL Dx Zx ItX
/-! ### o[i] -/
section
variable {X : Cx} {C : Addr} {CXc : CXT} {k : Nat} {ps : List Str} {sp : Sp} {W : WX} {a b : Expr} {ta tb : TE} {pos : Pos}
def tSubO (C : Addr) (sp : Sp) (W : WX) (ta tb : TE) : TE := fun σ H Q => ta σ H fun x H1 => tb σ H1 fun y H2 => ∃ p dx fs, x = .ref p ∧ H2 p = some (.ins C dx fs) ∧ sp [.ref p, y] H2 Q (fun cls d H' => W cls d σ H')
theorem pe_subO (c : OwM X.prog X.w X.K X.mg X.base CXc C "__getitem__" k ps sp) (fi : ∀ f, PySem.W.findIn X.K (.ref C) "__getitem__" = some (some (.ref f)) → PySem.W.fnIn X.K f = true) (hr : Room (k + 1) X.A) (hx : ∀ σ, PassesAt CXc X σ (fun cls d H' => W cls d σ H')) (ha : PE X a ta) (hb : PE X b tb)
    (hs : ∀ v u, subscripted b true v u = runValue (.builtin "lifetime.subscript" ⟨[v, u], []⟩) := by intro _ _; rfl) : PE X (.Subscript a b pos) (tSubO C sp W ta tb) := by
  refine ⟨fun pins s σ H Q I h => ?_⟩
  refine Subscript_ (binT ha hb I (R := fun x y H2 => ∃ p dx fs, x = .ref p ∧ H2 p = some (.ins C dx fs) ∧ sp [.ref p, y] H2 Q (fun cls d H' => W cls d σ H')) h fun v u s2 x y H2 I2 rx ry q => ?_)
  obtain ⟨p, dx, fs, rfl, hp, hsp⟩ := q
  obtain ⟨f, fd, ok, hfi, hf, _, hbd⟩ := c.ex
  obtain ⟨od, J⟩ := inst_of I2 hp
  obtain ⟨m, hF⟩ := I2.fr
  cases rx
  refine PySem.W.sub_K hF I2.ok.mod.kin J hfi (fi f hfi) hf ?_ (hs _ _)
  exact call_at ((sub_self hr).in1) ok hbd I2 (vs := [.ref p, y]) (.cons rfl (.cons ry .nil)) hsp (fun e s' z => hx σ pins H2 s2 e s' I2 z)
end
/-! ### o op x, x of a built-in type -/
/-- what the written part says of an operator of C with a second operand of the built-in type T -/
structure BinF (K : PySem.W.Frag) (C : Addr) (op : Operator) (T : String) : Prop where
  first : PySem.W.selfFirst K C = true
  refl : ∃ rc, PySem.W.findIn K (.ref C) (dunderR op.info.2) = some rc ∧ (rc = none ∨ ∃ g : Addr, rc = some (.ref g))
  t1 : ∃ fo, PySem.W.findIn K (.type T) (PySem.dunder op.info.2) = some fo
  t2 : ∃ ro, PySem.W.findIn K (.type T) (dunderR op.info.2) = some ro
  sub : PySem.W.subIn K (.type T) (.ref C) = some false
/-- the type of a value, looked at -/
def LkT (M : Model) (h : Heap) (v : Value) (T : String) : Prop := PySem.W.Looks M h (typeOf v) (.type T)
theorem bin_looks {prog : Program} {w : World} {A : Around} {E : Value → Shared → Prop} {s : Shared} {K : PySem.W.Frag} {x C f : Addr} {ox : Obj} {od : Option Obj} {T : String} {op : Operator} {b : Value} {Q : Value → Shared → Prop}
    (X : K.In s.heap) (I : PySem.W.InstAt s.heap x ox C od) (B : BinF K C op T) (hb : LkT (model prog w) s.heap b T) (hs : PySem.W.findIn K (.ref C) (PySem.dunder op.info.2) = some (some (.ref f))) (hf : PySem.W.isFn K (.ref f) = true)
    (h : wpAny (model prog w) A (call (.ref f) [.ref x, b]) (PySem.W.CmpBack Q) E s) : wpAny (model prog w) A (binaryOp op (.ref x) b) Q E s := by
  obtain ⟨hc, ⟨rc, hrc, hrp⟩, ⟨fo, h1⟩, ⟨ro, h2⟩, hsub⟩ := B
  obtain ⟨cd, rest, hcd, hm⟩ := PySem.W.ksp_first hc
  cases hi : op.info with
  | mk sym nm =>
    rw [hi] at hs hrc h1 h2
    dsimp only at hs hrc h1 h2
    have called := PySem.W.ksp_try X I hs hf h
    have d1 : PySem.W.Looks (model prog w) s.heap (typeOf (.ref x)) (.ref C) := I.type
    have d3 : PySem.W.Looks (model prog w) s.heap (fillsNumberSlot (.ref C) nm) true := PySem.W.fills_K X hcd hm hs
    have d4 := PySem.W.ksp_fillsT (M := model prog w) X h1 h2
    have d5 : PySem.W.Looks (model prog w) s.heap (isSubtype (.type T) (.ref C)) false := PySem.W.looks_subIn X hsub
    have d6 : PySem.W.Looks (model prog w) s.heap (numberSlotInPython (.ref C) nm) true := PySem.W.ksp_inPy X hs hrc hrp
    have d7 : PySem.W.Looks (model prog w) s.heap (numberSlotInPython (.type T) nm) false := PySem.W.Looks.of_pure rfl
    have d8 : PySem.W.Looks (model prog w) s.heap (typeLookup (.type T) (dunderR nm)) ro := PySem.W.looks_findIn X h2
    unfold LkT at hb
    clear X I hs hf h
    obtain ⟨hp, g, dd, tt, os⟩ := s
    generalize ((fo.isSome && !isSeqSlot fo) || (ro.isSome && !isSeqSlot ro)) = right at d4
    have other : (Value.ref C == Value.type T) = false := by
      cases z : (Value.ref C == Value.type T) with
      | false => rfl
      | true => cases beq_iff_eq.mp z
    simp only [binaryOp, hi]
    refine wpAny_holding (wpAny_bind ?_)
    unfold binaryOp1
    refine wpAny_bind (d1.at (wpAny_bind ?_))
    refine hb.at (wpAny_bind (d3.at ?_))
    simp only [other, Bool.false_eq_true, if_false]
    cases right
    · ksp_lk
      refine wpAny_mono called (fun r s' z => ?_) fun _ _ e => e
      obtain ⟨v, rfl, z⟩ := z
      ksp_lk
      exact z
    · ksp_lk
      refine wpAny_mono called (fun r s' z => ?_) fun _ _ e => e
      obtain ⟨v, rfl, z⟩ := z
      ksp_lk
      exact z
end Ow
namespace Ow
open PySem PySem.Spec PyProof.Rows L2 Bx TL Dx Zx ItX
section
variable {X : Cx} {pins : List (Addr × Obj)} {σ : L2.St} {H : Hp} {s : Shared}
/-- the built-in types of second operands -/
inductive TyO (K : PySem.W.Frag) (H : Hp) : V → String → Prop
  | int (i : Int) : TyO K H (.int i) "int"
  | str (z : Str) : TyO K H (.str z) "str"
  | tup {p : Addr} {xs : List V} (h : SqT K H p xs) : TyO K H (.ref p) "tuple"
theorem lk_of {y : V} {v : Value} {T : String} (I : Inv X pins σ H s) (r : RelV y v) (t : TyO X.K H y T) : LkT (model X.prog X.w) s.heap v T := by
  cases t with
  | int i =>
    obtain ⟨u, rfl⟩ := r
    exact PySem.W.Looks.of_pure rfl
  | str z =>
    obtain ⟨u, rfl⟩ := r
    exact PySem.W.Looks.of_pure rfl
  | tup h =>
    cases r
    obtain ⟨its, rv, ht, _⟩ := I.tuple h
    obtain ⟨o, ho, hc, _⟩ := ht
    unfold LkT
    rw [← hc]
    exact (PySem.W.Looks.ld ho).andThen .now
theorem back_ep {Q : VK} {u : Value} {s' : Shared} (h : EP X pins σ Q u s') : PySem.W.CmpBack (EP X pins σ Q) u s' := by
  obtain ⟨v, H', I', r, q⟩ := h
  have h2 : EP X pins σ Q u s' := ⟨v, H', I', r, q⟩
  cases v with
  | non => cases r; exact h2
  | bl b => cases r; exact h2
  | int i => obtain ⟨t, rfl⟩ := r; exact h2
  | str z => obtain ⟨t, rfl⟩ := r; exact h2
  | byt b => obtain ⟨t, rfl⟩ := r; exact h2
  | flt b => obtain ⟨t, rfl⟩ := r; exact h2
  | ref a => cases r; exact h2
  | ty n => cases r; exact h2
end
section
variable {X : Cx} {C : Addr} {CXc : CXT} {k : Nat} {ps : List Str} {sp : Sp} {W : WX} {a b : Expr} {ta tb : TE} {pos : Pos} {op : Operator} {T m : String}
def tBinO (K : PySem.W.Frag) (C : Addr) (T : String) (sp : Sp) (W : WX) (ta tb : TE) : TE := fun σ H Q => ta σ H fun x H1 => tb σ H1 fun y H2 => ∃ p dx fs, x = .ref p ∧ H2 p = some (.ins C dx fs) ∧ TyO K H2 y T ∧ sp [.ref p, y] H2 Q (fun cls d H' => W cls d σ H')
theorem pe_binO (c : OwM X.prog X.w X.K X.mg X.base CXc C (PySem.dunder op.info.2) k ps sp) (B : BinF X.K C op T) (hr : Room k X.A) (hx : ∀ σ, PassesAt CXc X σ (fun cls d H' => W cls d σ H')) (ha : PE X a ta) (hb : PE X b tb) : PE X (.BinOp a op b pos) (tBinO X.K C T sp W ta tb) := by
  refine ⟨fun pins s σ H Q I h => ?_⟩
  refine wpAny_BinOp (binT ha hb I (R := fun x y H2 => ∃ p dx fs, x = .ref p ∧ H2 p = some (.ins C dx fs) ∧ TyO X.K H2 y T ∧ sp [.ref p, y] H2 Q (fun cls d H' => W cls d σ H')) h fun v u s2 x y H2 I2 rx ry q => ?_)
  obtain ⟨p, dx, fs, rfl, hp, ht, hsp⟩ := q
  obtain ⟨f, fd, ok, hfi, hf, _, hbd⟩ := c.ex
  obtain ⟨od, J⟩ := inst_of I2 hp
  cases rx
  refine bin_looks I2.kIn J B (lk_of I2 ry ht) hfi hf ?_
  refine wpAny_mono (call_at (sub_self hr) ok hbd I2 (vs := [.ref p, y]) (.cons rfl (.cons ry .nil)) hsp (fun e s' z => hx σ pins H2 s2 e s' I2 z)) (fun u s' z => back_ep z) fun _ _ z => z
end
/-! ### iter(t), t a tuple -/
def TiO (t it : Addr) : HO := .ext fun h => h.IsTupleIter it t 0
theorem tiO_ok {P : Program} {w : World} {H : Hp} {h : Heap} {t it : Addr} (e : h.IsTupleIter it t 0) : ObjOk P w H h it (TiO t it) := by
  obtain ⟨o, ho, hc, hd⟩ := id e
  exact ⟨e, ⟨o, ho⟩, fun h1 h2 z k => z.at fun o e => k _ e⟩
def rIterT (K : PySem.W.Frag) (n : Nat) : List V → Hp → VK → Prop := fun xs H Q => ∃ (t : Addr) (zs : List V), xs = [.ref t] ∧ SqT K H t zs ∧ ∀ it, H it = none → n ≤ it → Q (.ref it) (upd H it (TiO t it))
theorem call_iterT {X : Cx} : CallR X (.builtin "iter") (rIterT X.K X.s_0.heap.objs.size) := by
  intro pins s σ H xs us Q I r h
  obtain ⟨t, zs, rfl, hq, q⟩ := h
  cases r with
  | cons r1 r2 =>
    cases r2
    cases r1
    obtain ⟨its, rv, pl, hz⟩ := I.tuple hq
    refine Calls.call_function_entry (by decide +kernel) (by decide +kernel) PySem.W.kdk_entry_iter (PySem.W.kdk_args_iter _) ?_
    unfold Builtin.«iter»
    refine wpAny_bind (m := someArgs "iter" 1 2 _) (wpAny_of_eq (a := [Value.ref t]) (by first | rfl | kernel_rfl!) ?_)
    show wpAny _ _ (pyIter (.ref t) >>= _) _ _ _
    refine wpAny_bind (wpAny_pyIter_tuple pl ?_)
    refine wpAny_pure ⟨_, rfl, .ref s.heap.objs.size, _, I.laid (t' := s.toks) (fun b u e => Heap.get?_push_of_some _ e) (Nat.le_refl _) (tiO_ok ⟨_, Heap.get?_push_size _ rfl, rfl, rfl⟩), rfl, q _ (I.hok.fresh (Nat.le_refl _)) I.sz⟩
end Ow
namespace Ow
open PySem PySem.Spec PyProof.Rows L2 Bx TL Dx Zx ItX
/-- a def of the text, called at a state that one knows -/
theorem run_here {CX : CXT} {P : Program} {w : World} {K : PySem.W.Frag} {mg : Str → Option Value} {base : Heap} {k : Nat} {f : Addr} {nm qn : Str} {params : Arguments} {body : List Stmt} {scope : Scope} {dV kV doc pm cdv ct oc : Value} {an od : Option Addr} {osl : Array (Option Value)} {N ps : List Str}
    {A : Around} {outer : List Env} {s : Shared} {H : Hp} {args : Args} {us : List Value} {vs : List V} {Q : VK} {E : XK} (lk : K.lookup f = some ⟨oc, od, .func (PySem.W.fnOf nm qn params body scope dV kV doc pm an cdv ct), osl⟩) (cd : PySem.W.codeIn K cdv qn = true) (S : FnScope N ps scope) (room : Room (k + 1) A)
    (e0 : Env0 P w K mg base A outer s H) (hb : BindsTo s (PySem.W.fnOf nm qn params body scope dV kV doc pm an cdv ct) args (ps.zip us)) (rel : Vals vs us) (len : vs.length = ps.length)
    (reads : Room k (A.deeper (envOfC qn scope s.heap.objs.size f cdv)) → ∃ t, PSs (cxOf CX P w K mg base N qn scope f cdv A outer s H E) body t ∧ t { nx := fun _ H' => Q .non H', rt := Q } (start N vs) H) :
    codeAny (model P w) A (.call (.ref f) args) (CR CX outer P w H s Q E) s := by
  have kx : K.In s.heap := e0.mod.kin.keeps (fun p q z => (e0.bs p q z).1)
  have open_ : s.heap.NoLimit := e0.mod.nolimit.keeps (fun p q z => (e0.bs p q z).1)
  have kinds : ∀ y ∈ ps.zip us, scope.names.lookup y.1 = some .local ∨ (scope.names.lookup y.1 = some .cell ∧ ((cellsFrom (s.heap.objs.size + 1) scope.names []).lookup y.1).isSome = true) := by
    rintro ⟨one, val⟩ hy
    exact (S.par one (List.of_mem_zip hy).1).imp id (fun q => ⟨q, PySem.W.cellsFrom_some _ _ _ (.inl q)⟩)
  refine codeAny_call_function room.depth (kx _ _ lk) rfl S.co S.gen rfl (PySem.W.codeRec_of kx cd) ?_
  refine hb _ _ _ _ ?_
  refine wpAny_newFunctionEnv_cells S.kind kinds (fun env he s1 x => ?_)
  cases he
  refine ⟨open_.keeps x.toInCall.keep, codeAny_func ?_⟩
  obtain ⟨t, pt, ht⟩ := reads (room.deeper _)
  have J0 := inv_start (CX := CX) (E := E) S room.hd e0 len rel x
  refine wpAny_mono (pt.run [] s1 (start N vs) H _ J0 ht) ?_ (fun e s' z => z)
  intro fl s' back
  match fl, back with
  | .ret u, ⟨v, σ', H', J, rv, q⟩ => exact ⟨v, H', J.os, J.bare, J.base, J.hok, rv, q⟩
  | .next, ⟨σ', H', J, q⟩ => exact ⟨V.non, H', J.os, J.bare, J.base, J.hok, rfl, q⟩
  | .brk, ⟨_, _, _, q⟩ => exact q.elim
  | .cont, ⟨_, _, _, q⟩ => exact q.elim
/-! ### for x in o, where def __iter__(self): return iter(self.f) -/
structure ItM (P : Program) (w : World) (K : PySem.W.Frag) (mg : Str → Option Value) (base : Heap) (C : Addr) (f : Str) (k : Nat) : Prop where
  ex : ∃ fi : Addr, PySem.W.findIn K (.ref C) "__iter__" = some (some (.ref fi)) ∧ PySem.W.isFn K (.ref fi) = true ∧
    ∀ (A : Around) (outer : List Env) (s : Shared) (H : Hp) (E : XK) (p dx t : Addr) (fs : List (Str × V)) (zs : List V), Room k A → Env0 P w K mg base A outer s H → H p = some (.ins C dx fs) → fs.lookup f = some (.ref t) → SqT K H t zs →
      codeAny (model P w) A (.call (.ref fi) ⟨[.ref p], []⟩) (CR CX0 outer P w H s (fun v H' => ∃ it, v = .ref it ∧ H it = none ∧ s.heap.objs.size ≤ it ∧ H' = upd H it (TiO t it)) E) s
section
variable {X : Cx} {C : Addr}
def tIterO (K : PySem.W.Frag) (C : Addr) (f : Str) (te : TE) : TI := fun σ H R => te σ H fun x H1 => ∃ p dx fs t zs, x = .ref p ∧ H1 p = some (.ins C dx fs) ∧ fs.lookup f = some (.ref t) ∧ SqT K H1 t zs ∧ R (Itt K t) H1
theorem pi_iterO {tg l : Expr} {te : TE} {k : Nat} {f : Str} (c : ItM X.prog X.w X.K X.mg X.base C f k) (hr : Room k X.A) (he : PE X l te) : PI X tg l (tIterO X.K C f te) := by
  refine ⟨fun pins s σ H R I h => ?_⟩
  refine thn (he.run pins s σ H _ I h) fun v s1 ⟨x, H1, I1, r1, q1⟩ => ?_
  obtain ⟨p, dx, fs, t, zs, rfl, hp, hl, hz, hR⟩ := q1
  obtain ⟨fi, hfi, hf, go⟩ := c.ex
  obtain ⟨od, J⟩ := inst_of I1 hp
  obtain ⟨m, hF⟩ := I1.fr
  cases r1
  refine PySem.W.owit_iter hF I1.ok.mod.kin J hfi hf ?_
  refine wpAny_call (codeAny_mono (go X.A X.stack s1 H1 E0 p dx t fs zs hr I1.env0 hp hl hz) fun res s' back => ?_)
  match res, back with
  | .error e, back => exact back.elim
  | .ok .next, back => exact back.elim
  | .ok .brk, back => exact back.elim
  | .ok .cont, back => exact back.elim
  | .ok (.ret u), back =>
    obtain ⟨v, H2, I2, rv, it, rfl, n1, hy, rfl⟩ := I1.after back
    cases rv
    have e2 : upd H1 it (TiO t it) it = some (TiO t it) := upd_same
    have hit : s'.heap.IsTupleIter it t 0 := by
      have : ObjOk X.prog X.w (upd H1 it (TiO t it)) s'.heap it (.ext fun h => h.IsTupleIter it t 0) := I2.hok it _ e2
      exact this.1
    show wpAny _ _ (specialOf (.ref it) "__next__") _ _ _
    refine wpAny_specialOf (name := Str.ofString "__next__") hit.typeIs PySem.F.slot_tuple_iterator_next.lookup ?_
    have hn : X.s_0.heap.objs.size ≤ it := Nat.le_trans I1.sz hy
    have I3 := inv_drop I2 e2
    have fp := inv_fp I2 e2 hn
    rw [dropH_upd n1] at I3 fp
    refine ⟨it, [it], _, _, H1, rfl, I3, turn_tuple t it, hit, fun b hb => ?_, hR⟩
    rw [List.mem_singleton.mp hb]
    exact fp
end
end Ow
/-! Own classes: o + p of one class, k * o, -o; dict(t) of a tuple of pairs. -/
namespace Ow
open PySem PySem.Spec PyProof.Rows L2 Bx TL Dx Zx ItX
theorem bin_same {prog : Program} {w : World} {A : Around} {E : Value → Shared → Prop} {s : Shared} {K : PySem.W.Frag} {x y C f : Addr} {ox oy : Obj} {od oe : Option Obj} {op : Operator} {Q : Value → Shared → Prop}
    (X : K.In s.heap) (I : PySem.W.InstAt s.heap x ox C od) (J : PySem.W.InstAt s.heap y oy C oe) (first : PySem.W.selfFirst K C = true) (hs : PySem.W.findIn K (.ref C) (PySem.dunder op.info.2) = some (some (.ref f))) (hf : PySem.W.isFn K (.ref f) = true)
    (h : wpAny (model prog w) A (call (.ref f) [.ref x, .ref y]) (PySem.W.CmpBack Q) E s) : wpAny (model prog w) A (binaryOp op (.ref x) (.ref y)) Q E s := by
  obtain ⟨cd, rest, hcd, hm⟩ := PySem.W.ksp_first first
  cases hi : op.info with
  | mk sym nm =>
    rw [hi] at hs
    dsimp only at hs
    have called := PySem.W.ksp_try X I hs hf h
    have d1 : PySem.W.Looks (model prog w) s.heap (typeOf (.ref x)) (.ref C) := I.type
    have d2 : PySem.W.Looks (model prog w) s.heap (typeOf (.ref y)) (.ref C) := J.type
    have d3 : PySem.W.Looks (model prog w) s.heap (fillsNumberSlot (.ref C) nm) true := PySem.W.fills_K X hcd hm hs
    clear X I J hs hf h
    obtain ⟨hp, g, dd, tt, os⟩ := s
    have same : (Value.ref C == Value.ref C) = true := beq_self_eq_true _
    simp only [binaryOp, hi]
    refine wpAny_holding (wpAny_bind ?_)
    unfold binaryOp1
    refine wpAny_bind (d1.at (wpAny_bind ?_))
    refine d2.at (wpAny_bind (d3.at ?_))
    simp only [same, if_true]
    ksp_lk
    refine wpAny_mono called (fun r s' z => ?_) fun _ _ e => e
    obtain ⟨v, rfl, z⟩ := z
    ksp_lk
    exact z
section
variable {X : Cx} {C : Addr} {k : Nat} {ps : List Str} {sp : Sp} {op : Operator}
def rBinSame (C : Addr) (sp : Sp) : V → V → Hp → VK → Prop := fun x y H Q => ∃ p q dx dy fs gs, x = .ref p ∧ y = .ref q ∧ H p = some (.ins C dx fs) ∧ H q = some (.ins C dy gs) ∧ sp [.ref p, .ref q] H Q E0
theorem op_same (c : OwM X.prog X.w X.K X.mg X.base CX0 C (PySem.dunder op.info.2) k ps sp) (first : PySem.W.selfFirst X.K C = true) (hr : Room k X.A) : OpR X (binaryOp op) (rBinSame C sp) := by
  intro pins s σ H x y u v Q I rx ry h
  obtain ⟨p, q, dx, dy, fs, gs, rfl, rfl, hp, hq, hsp⟩ := h
  obtain ⟨f, fd, ok, hs, hf, _, hb⟩ := c.ex
  obtain ⟨od, J⟩ := inst_of I hp
  obtain ⟨oe, J2⟩ := inst_of I hq
  cases rx
  cases ry
  refine bin_same I.kIn J J2 first hs hf ?_
  refine wpAny_mono (call_at (sub_self hr) ok hb I (vs := [.ref p, .ref q]) (.cons rfl (.cons rfl .nil)) hsp (fun e s' z => z.elim)) (fun u s' z => back_ep z) fun _ _ z => z
/-- o op x -/
def rBinT (K : PySem.W.Frag) (C : Addr) (T : String) (sp : Sp) : V → V → Hp → VK → Prop := fun x y H Q => ∃ p dx fs, x = .ref p ∧ H p = some (.ins C dx fs) ∧ TyO K H y T ∧ sp [.ref p, y] H Q E0
theorem op_ownT {T : String} (c : OwM X.prog X.w X.K X.mg X.base CX0 C (PySem.dunder op.info.2) k ps sp) (B : BinF X.K C op T) (hr : Room k X.A) : OpR X (binaryOp op) (rBinT X.K C T sp) := by
  intro pins s σ H x y u v Q I rx ry h
  obtain ⟨p, dx, fs, rfl, hp, ht, hsp⟩ := h
  obtain ⟨f, fd, ok, hs, hf, _, hb⟩ := c.ex
  obtain ⟨od, J⟩ := inst_of I hp
  cases rx
  refine bin_looks I.kIn J B (lk_of I ry ht) hs hf ?_
  refine wpAny_mono (call_at (sub_self hr) ok hb I (vs := [.ref p, y]) (.cons rfl (.cons ry .nil)) hsp (fun e s' z => z.elim)) (fun u s' z => back_ep z) fun _ _ z => z
/-- -o -/
theorem un_negO (c : OwM X.prog X.w X.K X.mg X.base CX0 C "__neg__" k ps sp) (hr : Room k X.A) : UnR X (unaryOp .USub) (fun x H Q => ∃ p dx fs, x = .ref p ∧ H p = some (.ins C dx fs) ∧ sp [.ref p] H Q E0) := by
  intro pins s σ H x u Q I rx h
  obtain ⟨p, dx, fs, rfl, hp, hsp⟩ := h
  obtain ⟨f, fd, ok, hs, hf, _, hb⟩ := c.ex
  obtain ⟨od, J⟩ := inst_of I hp
  obtain ⟨m, hF⟩ := I.fr
  cases rx
  refine PySem.W.ksp_neg hF I.ok.mod.kin J hs hf ?_
  exact call_at (sub_self hr) ok hb I (vs := [.ref p]) (.cons rfl .nil) hsp (fun e s' z => z.elim)
/-- o[i] -/
theorem pe_subO0 {a b : Expr} {ta tb : TE} {pos : Pos} (c : OwM X.prog X.w X.K X.mg X.base CX0 C "__getitem__" k ps sp) (fi : ∀ f, PySem.W.findIn X.K (.ref C) "__getitem__" = some (some (.ref f)) → PySem.W.fnIn X.K f = true) (hr : Room (k + 1) X.A) (ha : PE X a ta) (hb : PE X b tb)
    (hs : ∀ v u, subscripted b true v u = runValue (.builtin "lifetime.subscript" ⟨[v, u], []⟩) := by intro _ _; rfl) : PE X (.Subscript a b pos) (tSubO C sp (fun _ _ _ _ => False) ta tb) :=
  pe_subO c fi hr (fun _ _ _ _ _ _ _ h => h.elim) ha hb hs
end
end Ow
/-! tuple(xs) without a dict of its own; dict(t) of such a tuple of pairs; k * o. -/
namespace Ow
open PySem PySem.Spec PyProof.Rows L2 Bx TL Dx Zx ItX
/-- a tuple without a dict of its own -/
def PlT (H : Hp) (a : Addr) (xs : List V) : Prop := ∃ o, H a = some (.frz o (.tup xs)) ∧ o.dict = none
theorem PlT.sq {K : PySem.W.Frag} {H : Hp} {a : Addr} {xs : List V} (h : PlT H a xs) : SqT K H a xs := .inl (.inr ⟨_, h.choose_spec.1⟩)
theorem PlT.same {H H' : Hp} {a : Addr} {xs : List V} (s : Same H H') (h : PlT H a xs) : PlT H' a xs := ⟨_, s _ _ h.choose_spec.1, h.choose_spec.2⟩
section
variable {X : Cx}
def rTupF (K : PySem.W.Frag) : List V → Hp → VK → Prop := fun xs H Q => ∃ p ys, xs = [.ref p] ∧ SqL K H p ys ∧ ∀ l o, H l = none → o.dict = none → Q (.ref l) (upd H l (.frz o (.tup ys)))
theorem call_tupleF : CallR X (.type "tuple") (rTupF X.K) := by
  intro pins s σ H xs us Q I r h
  obtain ⟨p, ys, rfl, hq, q⟩ := h
  obtain ⟨u, rfl, rx⟩ := vals1 r
  cases rx
  obtain ⟨its, r', pl, hz⟩ := I.list hq
  have hlen := r'.length
  refine call_tuple_list pl.isList (fun h' kp => ?_) (by simp only [List.size_toArray] <;> omega)
  have I1 : Inv X pins σ H { s with heap := h' } := I.kept (t' := s.toks) kp
  let o : Obj := { cls := .type "tuple", data := .seq its.toArray }
  have I2 : Inv X pins σ (upd H h'.objs.size (.frz o (.tup ys))) { s with heap := h'.push o } :=
    I1.laid (t' := s.toks) (fun b o e => Heap.get?_push_of_some _ e) (Nat.le_refl _) (show ObjOk X.prog X.w _ _ _ (.frz o (.tup ys)) from ⟨Heap.get?_push_size _ rfl, hz, its, r', IsTup.new _ _⟩)
  exact ⟨.ref h'.objs.size, _, I2, rfl, q _ o (I1.hok.fresh (Nat.le_refl _)) rfl⟩
def rDictT (K : PySem.W.Frag) : List V → Hp → VK → Prop := fun xs H Q => ∃ (a : Addr) (ps : List Addr) (kvs : List (Key × V)), xs = [.ref a] ∧ PlT H a (ps.map V.ref) ∧ Paired (fun p kv => SqT K H p [kV kv.1, kv.2]) ps kvs ∧
    ∀ p, H p = none → Q (.ref p) (upd H p (.dK (mergeK [] kvs)))
theorem call_dictT (hcalm : X.calm = true) : CallR X (.type "dict") (rDictT X.K) := by
  intro pins s σ H xs us Q I r q
  obtain ⟨a, ps, kvs, rfl, ⟨o, ha, hod⟩, hp, q⟩ := q
  obtain ⟨u, rfl, rx⟩ := vals1 r
  cases rx
  obtain ⟨hg, hz, its, rv, o2, ho2, hc, n, hdat⟩ : ObjOk X.prog X.w H s.heap a (.frz o (.tup (ps.map V.ref))) := I.hok a _ ha
  rw [hg] at ho2
  obtain rfl := Option.some.inj ho2
  have ei := refs_at rv
  subst ei
  obtain ⟨prs, rel, hl, hpr⟩ := pairs_of I hp
  rw [List.length_map] at hz
  have at_ : ∀ (j : Nat) (q : Key × Value), prs[j]? = some q → ∃ u : Value, IsTup s.heap (ps.getD j 0) #[u, q.2] ∧ ps[j]? = some (ps.getD j 0) ∧ keyIs q.1 u = true := fun j q e => by
    obtain ⟨b, u, e1, e2, e3⟩ := hpr j q e
    have e4 : ps.getD j 0 = b := by rw [List.getD_eq_getElem?_getD, e1]; rfl
    rw [e4]
    exact ⟨u, e2, e1, e3⟩
  classical
  let key : Nat → Value := fun j => match prs[j]? with
    | some q => (if h : ∃ u : Value, IsTup s.heap (ps.getD j 0) #[u, q.2] ∧ keyIs q.1 u = true then h.choose else .none)
    | none => .none
  have keyAt : ∀ (j : Nat) (q : Key × Value), prs[j]? = some q → IsTup s.heap (ps.getD j 0) #[key j, q.2] ∧ keyIs q.1 (key j) = true := fun j q e => by
    obtain ⟨u, h1, _, h3⟩ := at_ j q e
    have hh : ∃ u : Value, IsTup s.heap (ps.getD j 0) #[u, q.2] ∧ keyIs q.1 u = true := ⟨u, h1, h3⟩
    have ek : key j = hh.choose := by
      show (match prs[j]? with | some q => _ | none => _) = _
      rw [e]
      exact dif_pos hh
    rw [ek]
    exact hh.choose_spec
  let vps : List (Value × Value) := (List.range prs.length).map fun j => (key j, match prs[j]? with | some q => q.2 | none => .none)
  have vlen : vps.length = prs.length := by simp [vps]
  have vat : ∀ j k v, vps[j]? = some (k, v) → ∃ q : Key × Value, prs[j]? = some q ∧ k = key j ∧ v = q.2 := fun j k v e => by
    have hj : j < prs.length := by
      have := (List.getElem?_eq_some_iff.mp e).1
      omega
    have e1 : prs[j]? = some prs[j] := List.getElem?_eq_getElem hj
    refine ⟨prs[j], e1, ?_⟩
    have e2 : vps[j]? = some (key j, prs[j].2) := by
      simp only [vps, List.getElem?_map, List.getElem?_range hj, Option.map_some, e1]
    rw [e2] at e
    cases e
    exact ⟨rfl, rfl⟩
  have P := PySem.PairArg.tuple (prog := X.prog) (w := X.w) a (ps.map Value.ref).toArray (fun j => ps.getD j 0) vps
  refine PySem.call_dict_pairs (knd := mixKind X.prog X.w) (kvs := prs) P (I.ok.hd hcalm) ⟨⟨o, n, hg, hc, hod, hdat⟩, by rw [List.size_toArray, List.length_map, vlen, hl], fun j k v e => ?_⟩ ⟨vlen.symm, fun i k v e => ?_⟩ (by rw [vlen, hl]; exact hz) fun h' tk hd' kp => ?_
  · obtain ⟨q, e1, rfl, rfl⟩ := vat j k v e
    obtain ⟨u, _, e3, _⟩ := at_ j q e1
    refine ⟨?_, .inl (keyAt j q e1).1⟩
    rw [List.getElem?_toArray, List.getElem?_map, e3]
    rfl
  · obtain ⟨q, e1, rfl, rfl⟩ := vat i k v e
    exact ⟨q.1, e1, (keyAt i q e1).2⟩
  · have hm : (s.heap.objs.size == sysModules) = false := beq_eq_false_iff_ne.mpr (Nat.ne_of_gt I.big)
    have hlen : (mergeK [] kvs).length ≤ sizeLine := by
      refine Nat.le_trans (length_mergeK kvs []) ?_
      rw [List.length_nil, Nat.zero_add, rel.length, hl]
      exact hz
    exact ⟨.ref s.heap.objs.size, upd H s.heap.objs.size (.dK (mergeK [] kvs)), I.laid (t' := tk) (fun b o e => kp b o (fun h => nomatch h) e) (Nat.le_refl _) (show ObjOk X.prog X.w _ _ _ (.dK (mergeK [] kvs)) from ⟨hlen, hm, merged [] prs, KV.merge rel .nil, hd'⟩), rfl, q _ (I.hok.fresh (Nat.le_refl _))⟩
end
/-! ### k * o -/
theorem int_mul_ins (a : Int) (t : Tok) (l C dx : Addr) :
    Meets (Builtin.«int.__mul__» ⟨[.int a t, .ref l], []⟩) (fun _ R s => s.heap.get? l = some (PySem.W.instObj C dx) ∧ R (.ok (.ret Value.notImplemented)) s) :=
  .of_wp fun prog w A R s h => by obtain ⟨hp, g, d, tk, os⟩ := s; obtain ⟨hl, h⟩ := h; wp_walk; exact ⟨_, rfl, h⟩
theorem int_declines {prog : Program} {w : World} {A : Around} {E : Value → Shared → Prop} {s : Shared} {k : Int} {t : Tok} {x C dx : Addr} {Q : Value → Shared → Prop} (hg : s.heap.get? x = some (PySem.W.instObj C dx)) (q : Q .notImplemented s) :
    wpAny (model prog w) A (call (.builtin "int.__mul__") [.int k t, .ref x]) Q E s :=
  call_meets F.slot_int_mul (typeIs_int s k t) F.entry_int_mul (F.args_int_mul_2 _ _) (int_mul_ins k t x C dx) ⟨hg, q⟩
theorem try_declines {prog : Program} {w : World} {A : Around} {E : Value → Shared → Prop} {s : Shared} {k : Int} {t : Tok} {x C dx : Addr} {Q : Option Value → Shared → Prop} (hg : s.heap.get? x = some (PySem.W.instObj C dx)) (q : Q none s) :
    wpAny (model prog w) A (tryMethod (.int k t) (dunder "mul") (.ref x)) Q E s := by
  refine wpAny_tryMethod_declines (T := "int") (name := dunder "mul") (id := "int.__mul__") ?_ ?_ ?_
  · exact typeIs_int s k t
  · exact F.slot_int_mul
  exact int_declines hg ⟨rfl, q⟩
theorem bin_right {prog : Program} {w : World} {A : Around} {E : Value → Shared → Prop} {s : Shared} {K : PySem.W.Frag} {x C f dx : Addr} {od : Option Obj} {k : Int} {t : Tok} {Q : Value → Shared → Prop}
    (X : K.In s.heap) (I : PySem.W.InstAt s.heap x (PySem.W.instObj C dx) C od) (first : PySem.W.selfFirst K C = true) (hl : PySem.W.findIn K (.ref C) "__mul__" = some (some (.ref f))) (hs : ∃ g : Addr, PySem.W.findIn K (.ref C) "__rmul__" = some (some (.ref g)) ∧ PySem.W.isFn K (.ref g) = true ∧
      wpAny (model prog w) A (call (.ref g) [.ref x, .int k t]) (PySem.W.CmpBack Q) E s)
    (hsub : PySem.W.subIn K (.ref C) (.type "int") = some false) : wpAny (model prog w) A (binaryOp .Mult (.int k t) (.ref x)) Q E s := by
  obtain ⟨g, hr, hf, h⟩ := hs
  obtain ⟨cd, rest, hcd, hm⟩ := PySem.W.ksp_first first
  have hg : s.heap.get? x = some (PySem.W.instObj C dx) := by
    exact I.at_
  have called := PySem.W.ksp_try X I hr hf h
  have d1 : PySem.W.Looks (model prog w) s.heap (typeOf (.ref x)) (.ref C) := I.type
  have d3 : PySem.W.Looks (model prog w) s.heap (fillsNumberSlot (.ref C) "mul") true := PySem.W.fills_K X hcd hm hl
  have d5 : PySem.W.Looks (model prog w) s.heap (isSubtype (.ref C) (.type "int")) false := PySem.W.looks_subIn X hsub
  clear X I hl hr hf h
  simp only [binaryOp]
  refine wpAny_holding (wpAny_bind ?_)
  show wpAny _ _ (binaryOp1 "mul" _ _) _ _ _
  simp only [binaryOp1]
  refine wpAny_bind (wpAny_typeOf (typeIs_int s k t) (wpAny_bind (d1.at (wpAny_bind (wpAny_of_eq F.fills_int_mul ?_)))))
  have hne : (Value.type "int" == Value.ref C) = false := Bool.eq_false_iff.mpr fun q => by cases beq_iff_eq.mp q
  simp only [hne, Bool.false_eq_true, if_false]
  refine wpAny_bind (d3.at ?_)
  simp only [Bool.and_self, if_true]
  refine wpAny_bind (d5.at ?_)
  have hpy : numberSlotInPython (.type "int") "mul" = pure false := rfl
  simp only [Bool.false_eq_true, if_false, pure_bind, Bool.not_false, Bool.and_self, if_true, hpy]
  refine wpAny_bind (try_declines hg ?_)
  refine wpAny_bind (wpAny_mono called (fun r s' z => ?_) fun _ _ e => e)
  obtain ⟨v, rfl, z⟩ := z
  exact wpAny_bind (wpAny_rule (wpAny_pure (wpAny_pure z)))
section
variable {X : Cx} {C : Addr} {k : Nat} {ps : List Str} {sp : Sp}
/-- k * o -/
def rMulR (C : Addr) (sp : Sp) : V → V → Hp → VK → Prop := fun x y H Q => ∃ p dx fs n, x = .int n ∧ y = .ref p ∧ H p = some (.ins C dx fs) ∧ sp [.ref p, .int n] H Q E0
theorem op_mulR (c : OwM X.prog X.w X.K X.mg X.base CX0 C "__rmul__" k ps sp) (first : PySem.W.selfFirst X.K C = true) (hl : ∃ f : Addr, PySem.W.findIn X.K (.ref C) "__mul__" = some (some (.ref f))) (hsub : PySem.W.subIn X.K (.ref C) (.type "int") = some false) (hr : Room k X.A) : OpR X (binaryOp .Mult) (rMulR C sp) := by
  intro pins s σ H x y u v Q I rx ry h
  obtain ⟨p, dx, fs, n, rfl, rfl, hp, hsp⟩ := h
  obtain ⟨f, fd, ok, hs, hf, _, hb⟩ := c.ex
  obtain ⟨fl, hfl⟩ := hl
  obtain ⟨od, J⟩ := inst_of I hp
  obtain ⟨t, rfl⟩ := id rx
  cases ry
  refine bin_right I.kIn J first hfl ⟨f, hs, hf, ?_⟩ hsub
  refine wpAny_mono (call_at (sub_self hr) ok hb I (vs := [.ref p, .int n]) (.cons rfl (.cons rx .nil)) hsp (fun e s' z => z.elim)) (fun u s' z => back_ep z) fun _ _ z => z
end
end Ow
namespace Ow
open PySem PySem.Spec PyProof.Rows L2 Bx TL Dx Zx ItX
/-! ### calls with defaults, new instances, methods, by their promises -/
structure CalD (P : Program) (w : World) (K : PySem.W.Frag) (mg : Str → Option Value) (base : Heap) (x : Str) (k : Nat) (ps : List Str) (sp : Sp) (dvs : List V) : Prop where
  ex : ∃ (f : Addr) (fd : FuncData) (ds : List Value), FnOk P w K mg base CX0 k f fd ps sp ∧ mg x = some (.ref f) ∧ PySem.W.keepIn K (.ref f) = true ∧ Binds K fd ps ds ∧ Vals dvs ds
structure MakC (P : Program) (w : World) (K : PySem.W.Frag) (mg : Str → Option Value) (base : Heap) (x : Str) (C : Addr) (k : Nat) (ps : List Str) (sp : Sp) (dvs : List V) : Prop where
  ex : ∃ (f : Addr) (fd : FuncData) (ds : List Value), Mk K C f ∧ FnOk P w K mg base CX0 k f fd ps sp ∧ mg x = some (.ref C) ∧ Binds K fd ps ds ∧ Vals dvs ds
structure MthC (P : Program) (w : World) (K : PySem.W.Frag) (mg : Str → Option Value) (base : Heap) (C : Addr) (m : Str) (k : Nat) (ps : List Str) (sp : Sp) : Prop where
  ex : ∃ (f : Addr) (fd : FuncData), Cls K C ∧ Meth K C m f ∧ FnOk P w K mg base CX0 k f fd ps sp ∧ Binds K fd ps []
section
variable {X : Cx} {x : Str} {k : Nat} {ps : List Str} {sp : Sp} {e : Expr} {es : List Expr} {t : TA} {p pos : Pos} {dvs : List V} {C : Addr}
theorem pe_calD (c : CalD X.prog X.w X.K X.mg X.base x k ps sp dvs) (hr : Room k X.A) (ha : PA X (e :: es) t) (hg : Gl X x := by rfl) (hdb : (x == ("__debug__" : Str)) = false := by decide)
    (he : starEach (e :: es) X.env = (false, eval e X.env) :: starEach es X.env := by rfl) (hpl : (backTo pos (starEach es X.env)).any (·.1) = false := by rfl) : PE X (.Call (.Name x p) (e :: es) [] pos) (tCall sp dvs E0 t) := by
  obtain ⟨f, fd, ds, ok, g, kp, b, r⟩ := c.ex
  exact pe_call (E := E0) ok hr hg g kp b r pass0 ha hdb he hpl (p := p)
theorem pe_mak (c : MakC X.prog X.w X.K X.mg X.base x C k ps sp []) (hr : Room (k + 1) X.A) (ha : PA X (e :: es) t) (hg : Gl X x := by rfl) (hdb : (x == ("__debug__" : Str)) = false := by decide)
    (he : starEach (e :: es) X.env = (false, eval e X.env) :: starEach es X.env := by rfl) (hpl : (backTo pos (starEach es X.env)).any (·.1) = false := by rfl) : PE X (.Call (.Name x p) (e :: es) [] pos) (tMake C sp [] E0 t) := by
  obtain ⟨f, fd, ds, M, ok, g, b, r⟩ := c.ex
  exact pe_make (E := E0) M ok hr hg g b r pass0 ha hdb he hpl (p := p)
theorem pe_mak0 (c : MakC X.prog X.w X.K X.mg X.base x C k ps sp dvs) (hr : Room (k + 1) X.A) (hg : Gl X x := by rfl) (hdb : (x == ("__debug__" : Str)) = false := by decide) : PE X (.Call (.Name x p) [] [] pos) (tMake C sp dvs E0 tNil) := by
  obtain ⟨f, fd, ds, M, ok, g, b, r⟩ := c.ex
  exact pe_make0 (E := E0) M ok hr hg g b r pass0 hdb (p := p)
theorem pe_mth {m : Str} {o : Expr} {to : TE} {apos : Pos} {pl : Sem Bool} (c : MthC X.prog X.w X.K X.mg X.base C m k ps sp) (hr : Room k X.A) (ho : PE X o to) (ha : PA X (e :: es) t)
    (hst : starEach (e :: es) X.env = (false, eval e X.env) :: starEach es X.env := by rfl) (hpl : (backTo pos (starEach es X.env)).any (·.1) = false := by rfl)
    (ht : eval (.Call (.Attribute o m apos) (e :: es) [] pos) X.env = (do
      let ov ← eval o X.env
      standAt apos.atName
      let (f, first) ← holding [ov] (getMethod ov m pl)
      callWith pos f first (backTo pos (starEach (e :: es) X.env)) (backToKw pos (keywordEach [] X.env))) := by rfl) : PE X (.Call (.Attribute o m apos) (e :: es) [] pos) (tMeth C m sp [] E0 to t) := by
  obtain ⟨f, fd, cl, mt, ok, b⟩ := c.ex
  exact pe_meth (E := E0) ho cl mt ok hr b .nil pass0 ha hst hpl ht
end
/-! ### // by any divisor -/
def CDivZ (_ j : Int) : Prop := j ≠ 0 ∧ j.natAbs.log2 < 9000
theorem op_fdivZ {X : Cx} : OpR X (binaryOp .FloorDiv) (rI CDivZ fun i j => .int (i.fdiv j)) := opI fun i j _ _ _ _ _ hc q => floordiv_int hc.1 q (.inl (PyProof.noPylong_of_log2 hc.2))
theorem wide_divZ {i j : Int} {b : Nat} (h : j ≠ 0) (hb : j.natAbs < 2 ^ b) (h0 : 0 < b) (h9 : b ≤ 9000) : CDivZ i j := ⟨h, Nat.lt_of_lt_of_le (PySem.Flt.log2_lt_of h0 hb) h9⟩
end Ow
/-! Calls that may raise, with a wish that knows the slots: C(..), o.m(..), f(..); C held by a local; list.count of texts. -/
namespace Px
open PySem PySem.Spec PyProof.Rows L2 Bx TL Dx Zx Ow
theorem passN {X : Cx} : Passes (L2.CX X.prog X.w) X E0 := fun _ _ _ _ _ _ _ ⟨_, _, _, _, _, _, _, _, _, _, _, _, z⟩ => z.elim
/-- `C(..)`, whose `__init__` may raise -/
structure MakX (P : Program) (w : World) (K : PySem.W.Frag) (mg : Str → Option Value) (base : Heap) (x : Str) (C : Addr) (k : Nat) (ps : List Str) (sp : Sp) : Prop where
  ex : ∃ (f : Addr) (fd : FuncData), Mk K C f ∧ FnOk P w K mg base (L2.CX P w) k f fd ps sp ∧ mg x = some (.ref C) ∧ Binds K fd ps []
structure MthX (P : Program) (w : World) (K : PySem.W.Frag) (mg : Str → Option Value) (base : Heap) (C : Addr) (m : Str) (k : Nat) (ps : List Str) (sp : Sp) : Prop where
  ex : ∃ (f : Addr) (fd : FuncData), Cls K C ∧ Meth K C m f ∧ FnOk P w K mg base (L2.CX P w) k f fd ps sp ∧ Binds K fd ps []
structure CalE (P : Program) (w : World) (K : PySem.W.Frag) (mg : Str → Option Value) (base : Heap) (x : Str) (k : Nat) (ps : List Str) (sp : Sp) : Prop where
  ex : ∃ (f : Addr) (fd : FuncData), FnOk P w K mg base (L2.CX P w) k f fd ps sp ∧ mg x = some (.ref f) ∧ PySem.W.keepIn K (.ref f) = true ∧ Binds K fd ps []
section
variable {X : Cx} {x : Str} {k : Nat} {ps : List Str} {sp : Sp} {e : Expr} {es : List Expr} {t : TA} {p pos : Pos} {C : Addr} {W : WX}
theorem run_makS {pins : List (Addr × Obj)} {σ : L2.St} {H : Hp} {s : Shared} {Q : VK} {E : XK} {us : List Value} {vs : List V} {f : Addr} {fd : FuncData} (M : Mk X.K C f) (F : FnOk X.prog X.w X.K X.mg X.base (L2.CX X.prog X.w) k f fd ps sp) (hr : Room (k + 1) X.A) (b : Binds X.K fd ps [])
    (hx : PassesAt (L2.CX X.prog X.w) X σ E) (I : Inv X pins σ H s) (rv : Vals vs us) (h : ∀ y dy, H y = none → H dy = none → dy ≠ y → sp (.ref y :: vs) (upd (upd H dy (.own y)) y (.ins C dy [])) (fun v G => v = .non ∧ Q (.ref y) G) E) :
    wpAny (model X.prog X.w) X.A (call (.ref C) us) (EP X pins σ Q) X.xe s := by
  have n1 := I.hok.fresh (Nat.le_refl s.heap.objs.size)
  have n2 := I.hok.fresh (Nat.le_succ s.heap.objs.size)
  have g := h _ _ n2 n1 (Nat.ne_of_lt (Nat.lt_succ_self s.heap.objs.size))
  have J := Inv.made (C := C) I
  have rs : Vals (V.ref (s.heap.objs.size + 1) :: vs) (Value.ref (s.heap.objs.size + 1) :: us) := .cons rfl rv
  have ln : (Value.ref (s.heap.objs.size + 1) :: us).length = ps.length := rs.length.symm.trans (F.len _ _ _ _ g)
  have bd := b _ (Value.ref (s.heap.objs.size + 1) :: us) J.kIn (by rw [List.append_nil]; exact ln)
  rw [List.append_nil] at bd
  refine wpAny_call (make_map (f := f) I.kIn M.makes M.init (beq_iff_eq.mp M.fn) (codeAny_mono (F.run _ X.stack _ _ _ _ _ _ E (hr.make C us []) (J.env0.make C us []) bd rs g) fun res s' back => ?_))
  match res, back with
  | .error er, back => exact hx pins _ _ er s' J back
  | .ok (.ret u), back =>
    obtain ⟨v, G, J2, r2, e2, q⟩ := J.after back
    subst e2
    exact ⟨r2, .ref (s.heap.objs.size + 1), G, J2, rfl, q⟩
  | .ok .next, back => exact back.elim
  | .ok .brk, back => exact back.elim
  | .ok .cont, back => exact back.elim
def tMakX (C : Addr) (sp : Sp) (W : WX) (t : TA) : TE := fun σ H Q => t σ H fun vs H1 => ∀ y dy, H1 y = none → H1 dy = none → dy ≠ y → sp (.ref y :: vs) (upd (upd H1 dy (.own y)) y (.ins C dy [])) (fun v G => v = .non ∧ Q (.ref y) G) (WE W σ)
theorem pe_makX (c : MakX X.prog X.w X.K X.mg X.base x C k ps sp) (tk : Takes X W) (hr : Room (k + 1) X.A) (ha : PA X (e :: es) t) (hg : Gl X x := by rfl) (hdb : (x == ("__debug__" : Str)) = false := by decide)
    (he : starEach (e :: es) X.env = (false, eval e X.env) :: starEach es X.env := by rfl) (hpl : (backTo pos (starEach es X.env)).any (·.1) = false := by rfl) : PE X (.Call (.Name x p) (e :: es) [] pos) (tMakX C sp W t) := by
  obtain ⟨f, fd, M, ok, g, b⟩ := c.ex
  refine ⟨fun pins s σ H Q I h => wpAny_Call_Name_kw (ld_glob I hg g ?_ hdb)⟩
  exact PySem.W.callWith_K (h₀ := X.base) I.ok.mod.kin M.kp (thn (ha.run pos pins s σ H _ I h) fun us s1 ⟨vs, H1, I1, rv, q⟩ => ⟨I1.kIn, run_makS M ok hr b (passAt tk σ) I1 rv q⟩) he hpl
theorem pe_makN (c : MakX X.prog X.w X.K X.mg X.base x C k ps sp) (hr : Room (k + 1) X.A) (ha : PA X (e :: es) t) (hg : Gl X x := by rfl) (hdb : (x == ("__debug__" : Str)) = false := by decide)
    (he : starEach (e :: es) X.env = (false, eval e X.env) :: starEach es X.env := by rfl) (hpl : (backTo pos (starEach es X.env)).any (·.1) = false := by rfl) : PE X (.Call (.Name x p) (e :: es) [] pos) (tMake C sp [] E0 t) := by
  obtain ⟨f, fd, M, ok, g, b⟩ := c.ex
  exact pe_make (E := E0) M ok hr hg g b .nil passN ha hdb he hpl (p := p)
/-- the class in a slot: `cls(..)` -/
def tMakL (i : Nat) (C : Addr) (sp : Sp) (t : TA) : TE := fun σ H Q => σ[i]? = some (some (.ref C)) ∧ tMake C sp [] E0 t σ H Q
theorem pe_makL {i : Nat} {y : Str} (c : MakX X.prog X.w X.K X.mg X.base x C k ps sp) (hr : Room (k + 1) X.A) (hN : X.N[i]? = some y) (hv : Vis X.env.scope y) (ha : PA X (e :: es) t) (hdb : (y == ("__debug__" : Str)) = false := by decide) (hcd : (y == ("__classdict__" : Str)) = false := by decide)
    (he : starEach (e :: es) X.env = (false, eval e X.env) :: starEach es X.env := by rfl) (hpl : (backTo pos (starEach es X.env)).any (·.1) = false := by rfl) : PE X (.Call (.Name y p) (e :: es) [] pos) (tMakL i C sp t) := by
  obtain ⟨f, fd, M, ok, g, b⟩ := c.ex
  refine ⟨fun pins s σ H Q I h => ?_⟩
  obtain ⟨h1, h2⟩ := h
  refine wpAny_Call_Name_kw (thn ((pe_var (pos := p) hN hv hdb hcd).run pins s σ H (fun v G => v = .ref C ∧ G = H) I ⟨.ref C, h1, rfl, rfl⟩) fun u s1 ⟨v, G, I1, r1, q1⟩ => ?_)
  obtain ⟨rfl, rfl⟩ := q1
  cases r1
  exact PySem.W.callWith_K (h₀ := X.base) I.ok.mod.kin M.kp (thn (ha.run pos pins s1 σ _ _ I1 h2) fun us s2 ⟨vs, H2, I2, rv, q⟩ => ⟨I2.kIn, run_make M ok hr b .nil passN I2 rv q⟩) he hpl
def tMthX (C : Addr) (m : Str) (sp : Sp) (W : WX) (ta : TE) (t : TA) : TE := fun σ H Q => ta σ H fun v H1 => ∃ a dx fs, v = .ref a ∧ H1 a = some (.ins C dx fs) ∧ fs.lookup m = none ∧ t σ H1 fun vs H2 => sp (v :: vs) H2 Q (WE W σ)
theorem pe_mthX {m : Str} {o : Expr} {to : TE} {apos : Pos} {pl : Sem Bool} (c : MthX X.prog X.w X.K X.mg X.base C m k ps sp) (tk : Takes X W) (hr : Room k X.A) (ho : PE X o to) (ha : PA X (e :: es) t)
    (hst : starEach (e :: es) X.env = (false, eval e X.env) :: starEach es X.env := by rfl) (hpl : (backTo pos (starEach es X.env)).any (·.1) = false := by rfl)
    (ht : eval (.Call (.Attribute o m apos) (e :: es) [] pos) X.env = (do
      let ov ← eval o X.env
      standAt apos.atName
      let (f, first) ← holding [ov] (getMethod ov m pl)
      callWith pos f first (backTo pos (starEach (e :: es) X.env)) (backToKw pos (keywordEach [] X.env))) := by rfl) : PE X (.Call (.Attribute o m apos) (e :: es) [] pos) (tMthX C m sp W to t) := by
  obtain ⟨f, fd, cl, mt, ok, b⟩ := c.ex
  refine ⟨fun pins s σ H Q I h => PySem.W.methodCall_KW (pl := pl) (thn (ho.run pins s σ H _ I h) fun u s1 ⟨v, H1, I1, rx, a, dx, fs, ev, ea, l, q⟩ => ?_) ht⟩
  subst ev
  cases rx
  refine getmeth_ok I1 ea cl mt l (PySem.W.callWith_K (first := [.ref a]) (h₀ := X.base) I.ok.mod.kin mt.kp (thn (ha.run pos pins s1 σ H1 _ I1 q) fun us s2 ⟨vs, H2, I2, rv, q2⟩ => ⟨I2.kIn, ?_⟩) hst hpl)
  exact run_fnS (E := fun σ => WE W σ) (us := .ref a :: us) (vs := .ref a :: vs) ok hr b (passAt tk σ) I2 (.cons rfl rv) q2
theorem pe_calE (c : CalE X.prog X.w X.K X.mg X.base x k ps sp) (tk : Takes X W) (hr : Room k X.A) (ha : PA X (e :: es) t) (hg : Gl X x := by rfl) (hdb : (x == ("__debug__" : Str)) = false := by decide)
    (he : starEach (e :: es) X.env = (false, eval e X.env) :: starEach es X.env := by rfl) (hpl : (backTo pos (starEach es X.env)).any (·.1) = false := by rfl) : PE X (.Call (.Name x p) (e :: es) [] pos) (tCallS sp (fun σ => WE W σ) t) := by
  obtain ⟨f, fd, ok, g, kp, b⟩ := c.ex
  exact pe_callS ok hr hg g kp b (fun σ => passAt tk σ) ha hdb he hpl (p := p)
end
/-! ### xs.count(x) of texts -/
section
variable {X : Cx}
def rCntS (K : PySem.W.Frag) : V → List V → Hp → VK → Prop := fun x xs H Q => ∃ (p : Addr) (ns : List Str) (z : Str), x = .ref p ∧ xs = [.str z] ∧ SqL K H p (ns.map V.str) ∧ Q (.int (ns.count z : Nat)) H
theorem plain_strs : ∀ ns : List Str, PyData.plainAll (ns.map PyData.str) = true
  | [] => rfl
  | n :: ns => by
    show (PyData.plain (PyData.str n) && PyData.plainAll (ns.map PyData.str)) = true
    rw [plain_strs ns]
    rfl
theorem depth_strs : ∀ ns : List Str, PyData.depthAll (ns.map PyData.str) ≤ 1
  | [] => Nat.zero_le 1
  | n :: ns => by
    show max (PyData.depth (PyData.str n)) (PyData.depthAll (ns.map PyData.str)) ≤ 1
    exact Nat.max_le.mpr ⟨by show 0 ≤ 1; omega, depth_strs ns⟩
theorem cnt_strs (z : Str) : ∀ ns : List Str, (ns.map PyData.str).countP (fun y => PyData.eqv y (.str z)) = ns.count z
  | [] => rfl
  | n :: ns => by
    rw [List.map_cons, List.countP_cons, List.count_cons, cnt_strs z ns]
    rfl
theorem mt_lcountS (hu : X.A.units + 65 < cLine) : MtR X "list.count" (rCntS X.K) := by
  intro pins s σ H x xs v us Q I rx rxs h
  obtain ⟨p, ns, z, rfl, rfl, hs, q⟩ := h
  cases rx
  obtain ⟨u, rfl, ru⟩ := rxs.one
  obtain ⟨t, rfl⟩ := ru
  obtain ⟨its, rv, pl, _⟩ := I.list hs
  obtain ⟨as, ra⟩ := Dp.readsAll I _ _ its (dp_strs ns) rv
  refine SeqAt.count_list_data pl.isList (by simpa using ra) (Reads.str z t) (plain_strs ns) rfl ?_ ?_
  · have := depth_strs ns
    have := Nat.min_le_left (PyData.depthAll (ns.map PyData.str)) (PyData.depth (.str z))
    omega
  · rw [cnt_strs]
    exact ⟨.int (ns.count z : Nat), H, I.tok _, ⟨s.toks, rfl⟩, q⟩
end
end Px
set_option maxHeartbeats 4000000
/-! t * k for any k from 0 on, t a tuple with items. -/
namespace Px
open PySem PySem.Spec PyProof.Rows L2 Bx TL Dx Zx Ow
theorem mul_one (l : Addr) (its : Array Value) (n : Nat) (dd : Option Addr) (sl : Array (Option Value)) (u : Tok) :
    Meets (Builtin.«tuple.__mul__» ⟨[.ref l, .int 1 u], []⟩) (fun _ R s => s.heap.get? l = some { cls := .type "tuple", dict := dd, data := .seq its n, slots := sl } ∧ R (.ok (.ret (.ref l))) s) :=
  .of_wp fun prog w A R s h => by
    obtain ⟨hp, g, d, tk, os⟩ := s
    obtain ⟨hl, h⟩ := h
    have f1 := AutoSeq1.idx_int
    have c1 : (its.isEmpty || (1 : Int) == 1) = true := by rw [show ((1 : Int) == 1) = true from rfl, Bool.or_true]
    wp_walk using wpAny_loadPart' hl
    repeat (first
      | (refine wpAny_ite_true (decide_eq_true c1) ?_; wp_walk using wpAny_loadPart' hl)
      | (refine wpAny_ite_false (by decide) ?_; wp_walk using wpAny_loadPart' hl))
    exact ⟨_, rfl, h⟩
theorem mul_nil (l : Addr) (its : Array Value) (n : Nat) (dd : Option Addr) (sl : Array (Option Value)) (u : Tok) (hi : its.isEmpty = false) :
    Meets (Builtin.«tuple.__mul__» ⟨[.ref l, .int 0 u], []⟩) (fun _ R s => s.heap.get? l = some { cls := .type "tuple", dict := dd, data := .seq its n, slots := sl } ∧
      R (.ok (.ret (Value.ref s.heap.objs.size))) { s with heap := s.heap.push { cls := Value.type "tuple", data := Data.seq #[] }, toks := s.toks }) :=
  .of_wp fun prog w A R s h => by
    obtain ⟨hp, g, d, tk, os⟩ := s
    obtain ⟨hl, h⟩ := h
    have f1 := AutoSeq1.idx_int
    have c1 : (its.isEmpty || (0 : Int) == 1) = false := by rw [hi]; rfl
    wp_walk using wpAny_loadPart' hl
    repeat (first
      | (refine wpAny_ite_false (decide_eq_false (by rw [c1]; exact Bool.false_ne_true)) ?_; wp_walk using wpAny_loadPart' hl)
      | (refine wpAny_ite_true (by decide) ?_; wp_walk using wpAny_loadPart' hl)
      | (refine wpAny_ite_false (by decide) ?_; wp_walk using wpAny_loadPart' hl))
    exact ⟨_, rfl, h⟩
def rRepA (K : PySem.W.Frag) : R2 := fun x y H Q => ∃ (l : Addr) (k : Nat) (xs : List V), x = .ref l ∧ y = .int (k : Int) ∧ SqT K H l xs ∧ xs ≠ [] ∧ k ≤ 1000 ∧ xs.length ≤ 1000 ∧ (k = 1 → Q (.ref l) H) ∧ (k ≠ 1 → ∀ p, H p = none → Q (.ref p) (upd H p (.tup (List.replicate k xs).flatten)))
theorem op_repA {X : Cx} : OpR X (binaryOp .Mult) (rRepA X.K) := by
  intro pins s σ H x y v u Q I rx ry h
  obtain ⟨l, k, xs, rfl, rfl, hT, hne, hk, hx, q1, q2⟩ := h
  by_cases h2 : 2 ≤ k
  · exact op_repT pins s σ H _ _ v u Q I rx ry ⟨l, (k : Int), xs, rfl, rfl, hT, hne, by omega, by omega, hx, fun p np => q2 (by omega) p np⟩
  · cases rx
    obtain ⟨t, rfl⟩ := ry
    obtain ⟨its, rv, ⟨⟨cls, dd, data, sl⟩, ho, hc, n, hd⟩, hsz⟩ := I.tuple hT
    simp only at hc hd
    subst hc hd
    have hi : its.toArray.isEmpty = false := by
      cases its with
      | nil =>
        cases rv
        exact absurd rfl hne
      | cons a b => rfl
    have hT2 : s.TypeIs (.ref l) "tuple" := ⟨_, ho, rfl⟩
    have go : ∀ {Z : Value → Shared → Prop} {D : Value → Shared → Prop}, wpAny (model X.prog X.w) X.A (call (.builtin "tuple.__mul__") [.ref l, .int (k : Int) t]) Z D s → wpAny (model X.prog X.w) X.A (binaryOp .Mult (.ref l) (.int (k : Int) t)) Z D s := fun {Z D} z =>
      wpAny_binaryOp_repeat_ref (T := "tuple") (U := "int") (by decide) hT2 (fun z => typeIs_int z (k : Int) t) noFill_tuple_mul F.fills_int_mul F.slot_int_rmul repeat_tuple F.slot_int_index.lookup
        (call_meets F.slot_int_rmul (typeIs_int s (k : Int) t) F.entry_int_rmul (F.args_int_rmul_2 _ _) (int_rmul_tuple (k : Int) t l its.toArray n dd sl) ⟨ho, rfl, hT2, z⟩)
    refine go ?_
    rcases (show k = 0 ∨ k = 1 by omega) with rfl | rfl
    · refine call_meets F.slot_tuple_mul hT2 F.entry_tuple_mul (F.args_tuple_mul_2 _ _) (mul_nil l its.toArray n dd sl t hi) ⟨ho, ?_⟩
      exact ⟨.ref s.heap.objs.size, _, I.laid (t' := s.toks) (o := .tup []) (fun b ob q => Heap.get?_push_of_some _ q) (Nat.le_refl _) ⟨Nat.zero_le _, [], .nil, IsTup.new _ _⟩, rfl, q2 (by omega) _ (I.hok.fresh (Nat.le_refl _))⟩
    · exact call_meets F.slot_tuple_mul hT2 F.entry_tuple_mul (F.args_tuple_mul_2 _ _) (mul_one l its.toArray n dd sl t) ⟨ho, .ref l, H, I, rfl, q1 rfl⟩
end Px
/-! try with several clauses, each of which names the error by the same name. -/
namespace Px
open PySem PySem.Spec PyProof.Rows L2 Bx TL Dx Zx Ow
abbrev Cl := Value × (Addr → Value → Option Addr → TS)
/-- the ends of a suite behind which slot i is taken away -/
def gone (i : Nat) (D : Ends) : Ends := { nx := fun σ H => D.nx (σ.set i none) H, rt := D.rt, bk := fun σ H => D.bk (σ.set i none) H, ct := fun σ H => D.ct (σ.set i none) H }
def wAsM (K : PySem.W.Frag) (i : Nat) (W0 : WX) (D : Ends) : List Cl → WX
  | [] => W0
  | c :: r => fun cls d σ H => ∃ b, PySem.W.exmOne K cls c.1 = some b ∧ (b = true → ∀ a, H a = none → c.2 a cls d (gone i D) (σ.set i (some (.ref a))) H) ∧ (b = false → wAsM K i W0 D r cls d σ H)
inductive HdA (X : Cx) (n : Str) : List ExceptHandler → List Cl → Prop
  | nil : HdA X n [] []
  | cons {x : Str} {c : Cl} {b0 : Stmt} {bs : List Stmt} {p1 p2 : Pos} {hs : List ExceptHandler} {l : List Cl} (nm : Names X x c.1)
      (su : ∀ (a : Addr) (o : Obj) (cls : Value) (d : Option Addr) (pn : List (Addr × Obj)), Zc cls d o → (∃ vs, o.data = .fields vs) → PSs (X.suite a ((a, o) :: pn)) (b0 :: bs) (c.2 a cls d)) (r : HdA X n hs l) :
      HdA X n (.ExceptHandler (some (.Name x p1)) (some n) (b0 :: bs) p2 :: hs) (c :: l)
section
variable {X : Cx} {n : Str} {i : Nat} {body : List Stmt} {h0 : ExceptHandler} {hs : List ExceptHandler} {l : List Cl} {pos : Pos} {tb : WX → TS} {W0 : WX}
theorem ps_tryA (hst : X.stack = X.env :: X.outer) (hfr : X.env.frame = some X.env.locals) (nd : X.N.Nodup) (hi : X.N[i]? = some n) (loc : X.env.kindOf n = some .local) (tk : Takes X W0)
    (hb : ∀ (W : WX) (pn : List (Addr × Obj)) (xe : Value → Shared → Prop), Takes (X.tr pn xe) W → PassesOwn (model X.prog X.w) X.A X.env xe → PSs (X.tr pn xe) body (tb W)) (hh : HdA X n (h0 :: hs) l) :
    PS X (.Try body (h0 :: hs) [] [] pos) (fun D σ H => tb (wAsM X.K i W0 D l) D σ H) := by
  refine ⟨fun pins s σ H D I h => wpAny_Try_except ?_⟩
  have ok := I.ok
  have fr2 : X.A.frames = some (X.env :: X.outer) := by rw [ok.frames, hst]
  refine wpAny_mono ((hb (wAsM X.K i W0 D l) (X.pn ++ pins) (fun e t1 => wpAny (model X.prog X.w) X.A (noteFrame e X.env) (fun _ t2 => wpAny (model X.prog X.w) X.A (setFlight e none) (fun _ t3 => wpAny (model X.prog X.w) X.A (handleBy e X.env (h0 :: hs)) (SP X pins D) X.xe t3) X.xe t2) X.xe t1)
    (fun er s' got => ?_) PassesOwn.looking).run [] s σ H D (I.toTry _) h) (fun fl s1 hsp => ?_) (fun er s1 he => he)
  · obtain ⟨a, B, sI, pins2, τ, G, cls, d, rfl, J0, nb, up, sky, na, os, ag, wish⟩ := got
    have J : Inv X pins τ G sI := J0.ofTry ok
    have sk2 : Sky B (X.env :: X.outer) a (Zc cls d) X.env.locals s'.heap := by rw [← hst]; exact sky
    show wpAny (model X.prog X.w) X.A (noteFrame (.ref a) X.env) _ _ _
    refine Sky.land Zc.steady fr2 hfr sk2 fun h3 fl3 up3 => ?_
    have J3 : Inv X pins τ G { s' with heap := h3 } := J.landed nb fl3.1 (up.trans up3) os ag
    obtain ⟨o3, v3, ho3, hz3, hd3⟩ := fl3.there
    have out : a ∉ frs (X.env :: X.outer) := fun hm => by
      obtain ⟨_, o2, ho2, no⟩ := fl3.2.2.1.mem hm
      rw [ho3] at ho2
      cases ho2
      exact no _ hd3
    have nL : a ≠ X.env.locals := fun z => out (List.mem_filterMap.mpr ⟨X.env, List.mem_cons_self, hfr.trans (congrArg some z.symm)⟩)
    have nF : a ∉ X.fs := fun hm => by
      obtain ⟨e, he, q⟩ := List.mem_filterMap.mp hm
      exact out (List.mem_filterMap.mpr ⟨e, List.mem_cons_of_mem _ he, q⟩)
    have S3 := J3.suite ho3 hd3 na nL nF
    have go : ∀ {hs2 : List ExceptHandler} {l2 : List Cl}, HdA X n hs2 l2 → wAsM X.K i W0 D l2 cls d τ G → wpAny (model X.prog X.w) X.A (handleBy (.ref a) X.env hs2) (SP X pins D) X.xe { s' with heap := h3 } := by
      intro hs2 l2 hk
      induction hk with
      | nil =>
        intro wish
        refine wpAny_handleBy_nil ?_
        obtain ⟨_, _, _, o4, v4, T, _, _, ho4, _, hd4, hT, _⟩ := id fl3
        unfold PySem.passOn
        refine wpAny_bind (wpAny_field ho4 hd4 hT ?_)
        rw [if_neg (show ¬ ((Value.ref T == Value.none) = true) from Bool.false_ne_true)]
        have last : wpAny (model X.prog X.w) X.A (setFlight (.ref a) X.env.frame) (fun _ t => wpAny (model X.prog X.w) X.A (throw (.ref a) : Sem Flow) (SP X pins D) X.xe t) X.xe { s' with heap := h3 } := by
          rw [hfr]
          refine HandSPX.setFlight_upZ fl3 fun h4 hh4 up4 => wpAny_throw (tk _ _ ⟨a, B, sI, pins, τ, G, cls, d, rfl, J, nb, (up.trans up3).trans up4, .inr (.inr ?_), na, os, ag, wish⟩)
          rw [hst]
          exact hh4
        first
          | exact wpAny_bind (wpAny_pure (wpAny_bind last))
          | exact wpAny_bind last
      | @cons x c b0 bs p1 p2 hs3 l3 nm su r ih =>
        intro wish
        obtain ⟨b, eb, yes, no⟩ := wish
        refine wpAny_handleBy_cons (codeAny_handlers_test ?_) (by intro q; cases q)
        have LT : PySem.W.Looks (model X.prog X.w) h3 (typeOf (.ref a)) cls := fun A Q E t k q => wpAny_typeOf_ref (k _ _ ho3) (by rw [hz3.1]; exact q)
        have LM := PySem.W.exm_one (M := model X.prog X.w) J3.kIn LT eb
        have look : ∀ {Q : Value → Shared → Prop} {E : Value → Shared → Prop}, Q c.1 { s' with heap := h3 } → wpAny (model X.prog X.w) (X.A.mark (some (.ref a))) (eval (.Name x p1) X.env) Q E { s' with heap := h3 } := fun {Q E} q => by
          obtain ⟨hg, hdb, hm | ⟨hm, hv, hnn⟩⟩ := nm
          · exact ld_glob (X := X.suite a ((a, o3) :: (X.pn ++ pins))) S3 hg hm q hdb
          · exact ld_blt (X := X.suite a ((a, o3) :: (X.pn ++ pins))) S3 hg hm hv q hnn hdb
        refine look (LM.here ?_)
        cases b with
        | false =>
          show wpAny _ X.A (handleBy (.ref a) X.env hs3) _ _ _
          exact ih (no rfl)
        | true =>
          refine codeAny_handlers_suite_as (HandSPX.lands_againZ fl3 fun h4 fl4 up4 => ?_)
          have J4 : Inv X pins τ G { s' with heap := h4 } := J.landed nb fl4.1 ((up.trans up3).trans up4) os ag
          obtain ⟨o4, v4, ho4, hz4, hd4⟩ := fl4.there
          refine store_ok (X := X.suite a ((a, o4) :: (X.pn ++ pins))) (v := .ref a) (J4.suite ho4 hd4 na nL nF) nd hi (.inl loc) rfl (fun s5 S5 => ?_) (.inr loc)
          refine wpAny_mono ((su a o4 cls d (X.pn ++ pins) hz4 ⟨_, hd4⟩).run [] s5 _ G _ S5 (yes rfl a na)) (fun fl s6 hsp => ?_) (fun _ _ z => False.elim z)
          have out6 : ∀ {ρ : L2.St} {H6 : Hp} {Q : Shared → Prop}, Inv (X.suite a ((a, o4) :: (X.pn ++ pins))) [] ρ H6 s6 → (∀ s7, Inv X pins (ρ.set i none) H6 s7 → Q s7) → wpAny (model X.prog X.w) X.A (do bindName X.env n .none; unbindBehindTheSuite X.env n p2) (fun _ s7 => Q s7) X.xe s6 :=
            fun S6 hq => gone_ok (S6.unsuite ok) nd hi loc hq
          match fl, hsp with
          | .next, ⟨ρ, H6, S6, q⟩ => exact out6 S6 fun s7 J7 => ⟨_, _, J7, q⟩
          | .brk, ⟨ρ, H6, S6, q⟩ => exact out6 S6 fun s7 J7 => ⟨_, _, J7, q⟩
          | .cont, ⟨ρ, H6, S6, q⟩ => exact out6 S6 fun s7 J7 => ⟨_, _, J7, q⟩
          | .ret u, ⟨v6, ρ, H6, S6, r6, q⟩ => exact out6 S6 fun s7 J7 => ⟨_, _, _, J7, r6, q⟩
    exact go hh wish
  · match fl, hsp with
    | .next, ⟨ρ, G, J, q⟩ => exact wpAny_execs_nil ⟨ρ, G, J.ofTry ok, q⟩
    | .brk, ⟨ρ, G, J, q⟩ => exact ⟨ρ, G, J.ofTry ok, q⟩
    | .cont, ⟨ρ, G, J, q⟩ => exact ⟨ρ, G, J.ofTry ok, q⟩
    | .ret u, ⟨v, ρ, G, J, rv, q⟩ => exact ⟨v, ρ, G, J.ofTry ok, rv, q⟩
end
end Px
/-! list(o), o of an own class with `__iter__` over a tuple and `__len__`. -/
namespace Px
open PySem PySem.Spec PyProof.Rows L2 Bx TL Dx Zx Ow
section
variable {X : Cx} {pins : List (Addr × Obj)} {σ : L2.St} {H : Hp} {s : Shared} {C p dx : Addr} {fs : List (Str × V)} {k : Nat} {ps : List Str} {sp : Sp} {A1 : Around} {E1 : Value → Shared → Prop}
theorem len_at {Q : Value → Shared → Prop} (sb : Sub X (k + 1) A1) (c : OwM X.prog X.w X.K X.mg X.base CX0 C "__len__" k ps sp) (I : Inv X pins σ H s) (ha : H p = some (.ins C dx fs)) (hsp : sp [.ref p] H (fun v G => G = H ∧ ∃ n : Nat, v = .int (n : Int) ∧ n ≤ 1000) E0)
    (q : ∀ (n : Nat) t s', n ≤ 1000 → Inv X pins σ H s' → Q (.int (n : Int) t) s') : wpAny (model X.prog X.w) A1 (call (.builtin "len") [.ref p]) Q E1 s := by
  obtain ⟨f, fd, ok, hs, hf, _, hb⟩ := c.ex
  obtain ⟨od, J⟩ := inst_of I ha
  obtain ⟨m, hF⟩ := I.fr
  refine PySem.W.len_K hF I.ok.mod.kin J hs hf ?_
  refine wpAny_mono (call_at sb.in1 ok hb I (vs := [.ref p]) (.cons rfl .nil) hsp (fun e s' z => z.elim)) (fun u s' hu => ?_) (fun _ _ z => z)
  obtain ⟨v, G, I', rv, rfl, n, rfl, hn⟩ := hu
  obtain ⟨t, rfl⟩ := rv
  exact ⟨⟨by omega, by omega⟩, q n _ _ hn (I'.tok _)⟩
theorem hint_own {Q : Bool → Shared → Prop} (sb : Sub X (k + 1) A1) (c : OwM X.prog X.w X.K X.mg X.base CX0 C "__len__" k ps sp) (I : Inv X pins σ H s) (ha : H p = some (.ins C dx fs)) (hsp : sp [.ref p] H (fun v G => G = H ∧ ∃ n : Nat, v = .int (n : Int) ∧ n ≤ 1000) E0)
    (q : ∀ b s', Inv X pins σ H s' → Q b s') : wpAny (model X.prog X.w) A1 (Builtin.List.listLengthHint (.ref p)) Q E1 s := by
  obtain ⟨f, fd, ok, hs, hf, _, hb⟩ := id c.ex
  obtain ⟨od, J⟩ := inst_of I ha
  unfold Builtin.List.listLengthHint
  refine wpAny_bind (wpAny_bind (J.type.here ((PySem.W.looks_findIn I.kIn hs).here ?_)))
  refine PySem.W.KFB.if_not rfl ?_
  show wpAny _ _ (rule _ >>= _) _ _ _
  refine wpAny_bind (wpAny_rule ?_)
  refine wpAny_bind (wpAny_attempt (len_at sb c I ha hsp fun n t s' hn I' => ?_))
  show wpAny _ _ (asInt? (Value.int (n : Int) t) >>= _) _ _ _
  refine wpAny_bind (wpAny_pure ?_)
  refine PySem.W.KFB.if_not ?_ (wpAny_pure (q _ s' I'))
  show decide ((n : Int).toNat > sizeLine) = false
  rw [sizeLine_eq]
  exact decide_eq_false (by omega)
/-- the iterator of o, where `__iter__` gives iter(self.f) -/
theorem iter_at {f : Str} {t : Addr} {zs : List V} {Q : Value → Shared → Prop} (sb : Sub X k A1) (c : ItM X.prog X.w X.K X.mg X.base C f k) (I : Inv X pins σ H s) (ha : H p = some (.ins C dx fs)) (hl : fs.lookup f = some (.ref t)) (hz : SqT X.K H t zs)
    (q : ∀ it s', Inv X pins σ H s' → s'.heap.IsTupleIter it t 0 → FpOk X pins H it → Q (.ref it) s') : wpAny (model X.prog X.w) A1 (pyIter (.ref p)) Q E1 s := by
  obtain ⟨fi, hfi, hf, go⟩ := c.ex
  obtain ⟨od, J⟩ := inst_of I ha
  obtain ⟨m, hF⟩ := I.fr
  refine PySem.W.owit_iter hF I.ok.mod.kin J hfi hf ?_
  have z0 := I.env0
  have e0 : Env0 X.prog X.w X.K X.mg X.base A1 X.stack s H := ⟨by rw [sb.fr]; exact z0.frames, z0.mod, z0.bs, z0.bsz, z0.funs, z0.frf, z0.hok, z0.bare⟩
  refine wpAny_call (codeAny_mono (go A1 X.stack s H E0 p dx t fs zs sb.room e0 ha hl hz) fun res s' back => ?_)
  match res, back with
  | .error e, back => exact back.elim
  | .ok .next, back => exact back.elim
  | .ok .brk, back => exact back.elim
  | .ok .cont, back => exact back.elim
  | .ok (.ret u), back =>
    obtain ⟨v, G, I2, rv, it, rfl, n1, hy, rfl⟩ := I.after back
    cases rv
    have e2 : upd H it (TiO t it) it = some (TiO t it) := upd_same
    have hit : s'.heap.IsTupleIter it t 0 := by
      have : ObjOk X.prog X.w (upd H it (TiO t it)) s'.heap it (.ext fun h => h.IsTupleIter it t 0) := I2.hok it _ e2
      exact this.1
    show wpAny _ _ (specialOf (.ref it) "__next__") _ _ _
    refine wpAny_specialOf (name := Str.ofString "__next__") hit.typeIs PySem.F.slot_tuple_iterator_next.lookup ?_
    have I3 := ItX.inv_drop I2 e2
    have fp := ItX.inv_fp I2 e2 (Nat.le_trans I.sz hy)
    rw [ItX.dropH_upd n1] at I3 fp
    exact q it s' I3 hit fp
theorem ext_loop {L it t : Addr} {zs : List V} {Rs : Result → Shared → Prop} (hc : X.calm = true) (hL : H L = some (.lst [])) (hz : SqT X.K H t zs) (hzl : zs.length ≤ 1000) (fp : FpOk X pins H it)
    (done : ∀ s', Inv X pins σ (upd H L (.lst zs)) s' → Rs (.ok (.ret .none)) s') :
    ∀ (m i : Nat) (s : Shared), zs.length - i = m → i ≤ zs.length → Inv X pins σ (upd H L (.lst (zs.take i))) s → s.heap.IsTupleIter it t i → codeAny (model X.prog X.w) X.A.in1 (.builtin "list.extend.loop" ⟨[.ref L, .ref it, .none], []⟩) Rs s := by
  have hzi : ∀ ys, SqT X.K (upd H L (.lst ys)) t zs := fun ys => by
    rcases hz with (h | ⟨u, h⟩) | h
    · exact .inl (.inl (by rw [upd_ne fun z => by rw [z, hL] at h; cases h]; exact h))
    · exact .inl (.inr ⟨u, by rw [upd_ne fun z => by rw [z, hL] at h; cases h]; exact h⟩)
    · exact .inr h
  have hit : it ≠ L := fun z => by
    have := fp.1
    rw [z, hL] at this
    cases this
  have fpi : ∀ ys, FpOk X pins (upd H L (.lst ys)) it := fun ys => ⟨by rw [upd_ne hit]; exact fp.1, fp.2⟩
  intro m
  induction m with
  | zero =>
    intro i s hm hi I st
    have e : i = zs.length := by omega
    subst e
    obtain ⟨its, rv, pt, _⟩ := I.tuple (hzi _)
    obtain ⟨f0, f1, f2, f3, f4, f5⟩ := fpi (zs.take zs.length)
    have hl := rv.length
    refine codeAny_builtin PySem.F.entry_extend_loop ?_
    rw [Around.under_plainId PySem.F.plain_extend_loop _]
    show wpAny _ X.A.in1.in1 (pyNext (.ref it) >>= _) _ _ s
    refine wpAny_bind (wpAny_pyNext_tuple_end (I.ok.hd hc) st (show s.heap.IsTuple t its.toArray from pt) (by simp; omega) fun h' eb => ?_)
    have I1 : Inv X pins σ (upd H L (.lst (zs.take zs.length))) { s with heap := h' } := I.turned (t' := s.toks) (fun b o hb e => eb b o hb e) f0 f1 f3 f4 f5
    rw [List.take_length] at I1
    exact wpAny_pure (done _ I1)
  | succ m ih =>
    intro i s hm hi I st
    have hlt : i < zs.length := by omega
    obtain ⟨its, rv, pt, _⟩ := I.tuple (hzi _)
    obtain ⟨u, hu, ru⟩ := rv.get (List.getElem?_eq_getElem hlt)
    obtain ⟨f0, f1, f2, f3, f4, f5⟩ := fpi (zs.take i)
    refine codeAny_builtin PySem.F.entry_extend_loop ?_
    rw [Around.under_plainId PySem.F.plain_extend_loop _]
    show wpAny _ X.A.in1.in1 (pyNext (.ref it) >>= _) _ _ s
    refine wpAny_bind (wpAny_pyNext_tuple_item st (show s.heap.IsTuple t its.toArray from pt) (x := u) (by simpa using hu) fun h' st' sb => ?_)
    have I1 : Inv X pins σ (upd H L (.lst (zs.take i))) { s with heap := h' } := I.turned (t' := s.toks) (fun b o hb e => (sb.2 b hb).trans e) f0 f1 f3 f4 f5
    obtain ⟨z, js, c, rj, hjl, ej⟩ := I1.lstM upd_same
    have tl : (zs.take i).length = i := by rw [List.length_take]; omega
    have jl : js.length = i := by rw [← rj.length, tl]
    show wpAny _ X.A.in1.in1 (updateSeq L (·.push u) >>= _) _ _ _
    have I2 := I1.lset (f := (·.push u)) (its := js) (its' := js ++ [u]) (ys := zs.take (i + 1)) (t' := s.toks) upd_same ej (by simp) (by rw [List.take_add_one, List.getElem?_eq_getElem hlt]; exact rj.append (.cons ru .nil)) (by rw [List.length_take, sizeLine_eq]; omega)
    rw [upd_upd] at I2
    refine wpAny_bind (wpAny_updateSeq ej rfl (wpAny_pure ⟨plainId_quiet PySem.F.plain_extend_loop _, ih (i + 1) _ (by omega) hlt I2 ?_⟩) (by rw [List.size_toArray, jl, sizeLine_eq]; omega) (by show (js.toArray.push u).size ≤ sizeLine + 1; rw [Array.size_push, List.size_toArray, jl, sizeLine_eq]; omega))
    exact st'.at fun o e => (Heap.get?_update_other _ _ (Ne.symm hit)).trans e
def rListO (K : PySem.W.Frag) (C : Addr) (f : Str) (sp : Sp) : List V → Hp → VK → Prop := fun xs H Q => ∃ (p dx t : Addr) (fs : List (Str × V)) (zs : List V), xs = [.ref p] ∧ H p = some (.ins C dx fs) ∧ fs.lookup f = some (.ref t) ∧ SqT K H t zs ∧ zs.length ≤ 1000 ∧
  (∀ G, (∀ b o, H b = some o → G b = some o) → sp [.ref p] G (fun v G' => G' = G ∧ ∃ n : Nat, v = .int (n : Int) ∧ n ≤ 1000) E0) ∧ ∀ q, H q = none → Q (.ref q) (upd H q (.lst zs))
theorem call_listO {f : Str} (hc : X.calm = true) (ci : ItM X.prog X.w X.K X.mg X.base C f k) (cl : OwM X.prog X.w X.K X.mg X.base CX0 C "__len__" k ps sp) (hr : Room (k + 3) X.A) : CallR X (.type "list") (rListO X.K C f sp) := by
  intro pins s σ H xs us Q I rv h
  obtain ⟨p, dx, t, fs, zs, rfl, hp, hl, hz, hzl, hsp, q⟩ := h
  obtain ⟨u, rfl, ru⟩ := rv.one
  cases ru
  have sb : Sub X (k + 1) X.A.in1.in1 := Sub.in1 (Sub.in1 (sub_self hr))
  refine callType_codes (Q₁ := fun obj s1 => obj = .ref s.heap.objs.size ∧ s1 = { s with heap := s.heap.push { cls := .type "list", data := .seq #[] } }) PySem.F.called_list (PySem.F.typeCall_list_1 _) PySem.F.entry_list_init (code_list_new _ ⟨rfl, rfl⟩) fun obj s1 h1 => ?_
  obtain ⟨rfl, rfl⟩ := h1
  have hS : (s.heap.push { cls := .type "list", data := .seq #[] }).get? s.heap.objs.size = some { cls := .type "list", data := .seq #[] } := Heap.get?_push_size _ rfl
  refine ⟨⟨_, hS, rfl⟩, PySem.F.args_list_init_2 _ _, ?_⟩
  have fr : H s.heap.objs.size = none := I.hok.fresh (Nat.le_refl _)
  have I1 : Inv X pins σ (upd H s.heap.objs.size (.lst [])) { s with heap := s.heap.push { cls := .type "list", data := .seq #[] } } := I.lnew (its := []) (t' := s.toks) .nil (Nat.zero_le _)
  have q2 := q _ fr
  have sm : Same H (upd H s.heap.objs.size (.lst [])) := same_new fr
  generalize hLd : s.heap.objs.size = L at hS fr I1 q2 sm ⊢
  show wpAny _ _ (do let old ← Builtin.List.listItems (.ref L); Builtin.List.listUpdate (.ref L) (fun _ => #[]); letGo old.toList.reverse; Builtin.List.listExtendWith (.ref L) (.ref p) .none) _ _ _
  refine wpAny_bind ?_
  unfold Builtin.List.listItems
  refine wpAny_bind (wpAny_seqItems hS rfl (wpAny_pure ?_))
  show wpAny _ _ (updateSeq L (fun _ => #[]) >>= fun _ => letGo (#[] : Array Value).toList.reverse >>= fun _ => Builtin.List.listExtendWith (.ref L) (.ref p) .none) _ _ _
  refine wpAny_bind (wpAny_updateSeq hS rfl ?_)
  have I2 := I1.lset (f := fun _ => #[]) (its := []) (its' := []) (ys := []) (t' := s.toks) upd_same hS rfl .nil (Nat.zero_le _)
  rw [upd_upd] at I2
  refine wpAny_bind (wpAny_letGo ?_)
  have hp2 := sm _ _ hp
  have hz2 := Bx.Same.tup sm hz
  have hsp2 := hsp _ sm
  have hL2 : upd H L (.lst []) L = some (.lst []) := upd_same
  have hne : L ≠ p := fun z => by rw [← z, fr] at hp; cases hp
  have fin : ∀ s', Inv X pins σ (upd (upd H L (.lst [])) L (.lst zs)) s' → EP X pins σ Q (.ref L) s' := fun s' I' => by
    rw [upd_upd] at I'
    exact ⟨.ref L, _, I', rfl, q2⟩
  clear q2 q hsp I1 I hS
  obtain ⟨mA, J, _⟩ := ins_get I2.hok hp2
  obtain ⟨od, J, _⟩ := J.look
  unfold Builtin.List.listExtendWith
  refine wpAny_bind (J.type.here ?_)
  have e1 : Builtin.List.listSameRef (.ref L) (.ref p) = false := by simp [Builtin.List.listSameRef, hne]
  have e2 : (Value.ref C == Value.type "list") = false := rfl
  have e3 : (Value.ref C == Value.type "tuple") = false := rfl
  simp only [e1, e2, e3, Bool.or_false, Bool.false_eq_true, if_false]
  refine wpAny_bind (iter_at (sb.mono (Nat.le_succ _)) ci I2 hp2 hl hz2 fun it s2 I3 hit fp => ?_)
  obtain ⟨oi, hoi, hci, hdi⟩ := id hit
  have Ip := I3.pinned (fp := [it]) (fun b hb => by rw [List.mem_singleton.mp hb]; exact fp) (fun b hb => by rw [List.mem_singleton.mp hb]; exact ⟨oi, hoi, fun v z => by rw [hdi] at z; cases z⟩)
  refine wpAny_bind (wpAny_holding (hint_own sb cl Ip hp2 hsp2 fun b s3 I4 => ?_))
  have hit3 : s3.heap.IsTupleIter it t 0 := hit.at fun o e => (I4.pin (it, o) (List.mem_append_right _ (List.mem_append_right _ (mem_pinsAt List.mem_cons_self e)))).1
  have I5 := I4.unpinned
  have run : ∀ s5, Inv X pins σ (upd (upd H L (.lst [])) L (.lst (zs.take 0))) s5 → s5.heap.IsTupleIter it t 0 → codeAny (model X.prog X.w) X.A.in1 (.builtin "list.extend.loop" ⟨[.ref L, .ref it, .none], []⟩) (wants (fun r s6 => r = .none ∧ EP X pins σ Q (.ref L) s6) X.xe) s5 := fun s5 J5 st5 =>
    ext_loop hc hL2 hz2 hzl fp (fun s6 J6 => ⟨rfl, fin s6 J6⟩) _ 0 s5 rfl (Nat.zero_le _) J5 st5
  have hH : upd (upd H L (.lst [])) L (.lst (zs.take 0)) = upd H L (.lst []) := upd_upd
  rw [hH] at run
  have hneL : it ≠ L := fun z => by
    have := fp.1
    rw [z, hL2] at this
    cases this
  refine wpAny_ite_split (fun _ => wpAny_bind (wpAny_rule (wpAny_bind ?_))) (fun _ => wpAny_pure ⟨plainId_quiet PySem.F.plain_extend_loop _, run s3 I5 hit3⟩)
  obtain ⟨z1, j1, c1, r1, l1, w1⟩ := I5.lstM hL2
  cases r1
  show wpAny _ _ (updateSeq L (·.push .none) >>= fun _ => updateSeq L (·.pop)) _ _ s3
  have K1 := I5.lset (f := (·.push Value.none)) (its' := [Value.none]) (ys := [.non]) (t' := s3.toks) hL2 w1 (by simp) (.cons rfl .nil) (by rw [sizeLine_eq]; decide)
  refine wpAny_bind (wpAny_updateSeq w1 rfl ?_)
  obtain ⟨z2, j2, c2, r2, l2, w2⟩ := K1.lstM upd_same
  obtain ⟨u2, rfl, _⟩ := r2.one
  have K2 := K1.lset (f := (·.pop)) (its := [u2]) (its' := []) (ys := []) (t' := s3.toks) upd_same w2 rfl .nil (Nat.zero_le _)
  rw [upd_upd, upd_upd] at K2
  refine wpAny_updateSeq w2 rfl (wpAny_pure ⟨plainId_quiet PySem.F.plain_extend_loop _, run _ K2 ?_⟩) (by show 1 ≤ sizeLine; rw [sizeLine_eq]; decide) (Nat.zero_le _)
  exact hit3.at fun o e => (Heap.get?_update_other _ _ (Ne.symm hneL)).trans ((Heap.get?_update_other _ _ (Ne.symm hneL)).trans e)
end
end Px
/-! o.m(..) where a method that may raise does not; C.m(..) of a classmethod. -/
namespace Px
open PySem PySem.Spec PyProof.Rows L2 Bx TL Dx Zx Ow
structure CmC (P : Program) (w : World) (K : PySem.W.Frag) (mg : Str → Option Value) (base : Heap) (C : Addr) (m : Str) (k : Nat) (sp : Sp) : Prop where
  ex : ∃ (mc : Value) (p g : Addr), ClX.CRead K C mc ∧ ClX.CMet K C mc m p g ∧ FnR P w K mg base CX0 k g sp
section
variable {X : Cx} {k : Nat} {ps : List Str} {sp : Sp} {o e : Expr} {es : List Expr} {t : TA} {apos pos : Pos} {C : Addr} {m : Str} {to : TE} {pl : Sem Bool}
theorem pe_mthN (c : MthX X.prog X.w X.K X.mg X.base C m k ps sp) (hr : Room k X.A) (ho : PE X o to) (ha : PA X (e :: es) t)
    (hst : starEach (e :: es) X.env = (false, eval e X.env) :: starEach es X.env := by rfl) (hpl : (backTo pos (starEach es X.env)).any (·.1) = false := by rfl)
    (ht : eval (.Call (.Attribute o m apos) (e :: es) [] pos) X.env = (do
      let ov ← eval o X.env
      standAt apos.atName
      let (f, first) ← holding [ov] (getMethod ov m pl)
      callWith pos f first (backTo pos (starEach (e :: es) X.env)) (backToKw pos (keywordEach [] X.env))) := by rfl) : PE X (.Call (.Attribute o m apos) (e :: es) [] pos) (tMeth C m sp [] E0 to t) := by
  obtain ⟨f, fd, cl, mt, ok, b⟩ := c.ex
  exact pe_meth (E := E0) ho cl mt ok hr b .nil passN ha hst hpl ht
theorem pe_cme (c : CmC X.prog X.w X.K X.mg X.base C m k sp) (hr : Room k X.A) (ho : PE X o to) (ha : PA X (e :: es) t)
    (hst : starEach (e :: es) X.env = (false, eval e X.env) :: starEach es X.env := by rfl) (hpl : (backTo pos (starEach es X.env)).any (·.1) = false := by rfl)
    (ht : eval (.Call (.Attribute o m apos) (e :: es) [] pos) X.env = (do
      let ov ← eval o X.env
      standAt apos.atName
      let (f, first) ← holding [ov] (getMethod ov m pl)
      callWith pos f first (backTo pos (starEach (e :: es) X.env)) (backToKw pos (keywordEach [] X.env))) := by rfl) : PE X (.Call (.Attribute o m apos) (e :: es) [] pos) (ClX.tCMeth C sp E0 to t) := by
  obtain ⟨mc, p, g, r, cm, F⟩ := c.ex
  exact ClX.pe_cmeth ho r cm F hr L2.pass0 ha hst hpl ht
/-- a property by its promise -/
structure PropC (P : Program) (w : World) (K : PySem.W.Frag) (mg : Str → Option Value) (base : Heap) (C : Addr) (m : Str) (k : Nat) (sp : Sp) : Prop where
  cl : Cls K C
  ex : ∃ (p g : Addr) (fd : FuncData), PropOf K C m p g ∧ FnOk P w K mg base CX0 k g fd ["self"] sp ∧ Binds K fd ["self"] []
theorem pe_propC {ta : TE} (c : PropC X.prog X.w X.K X.mg X.base C m k sp) (hr : Room (k + 1) X.A) (he : PE X e ta) (hab : attributeBase e m X.env (eval e X.env) = eval e X.env) : PE X (.Attribute e m pos) (tProp C sp [] E0 ta) := by
  obtain ⟨p, g, fd, hp, F, hb⟩ := c.ex
  exact pe_prop he c.cl hp F hr hb .nil L2.pass0 hab
end
end Px
/-! dicts whose keys are tuples: made by a comprehension. -/
namespace Dt
open PySem PySem.Spec PyProof.Rows L2 Bx TL Dx Zx
/-- the store of such a comprehension -/
theorem put_in {X : Cx} {pins : List (Addr × Obj)} {σ : L2.St} {H : Hp} {s : Shared} {E : Value → Shared → Prop} {D b : Addr} {kvs : List (List Key × V)} {k : List Key} {v : V} {r : Value} {Q : Unit → Shared → Prop} (hu : X.A.units < cLine) (J : Inv X pins σ H s) (hD : H D = some (.dT kvs)) (hl : kvs.length < sizeLine)
    (hb : H b = some (.tup (k.map kV))) (rv : RelV v r) (q : ∀ s', Inv X pins σ (upd H D (.dT (putK kvs k v))) s' → Q () s') : wpAny (model X.prog X.w) X.A (dictSet D (.ref b) r) Q E s := by
  obtain ⟨_, ns, xs, rel, dd⟩ := dt_of J.hok hD
  have small : xs.length ≤ sizeLine := by
    have := Paired.length rel
    omega
  have after : (putK kvs k v).length ≤ sizeLine := by
    have := length_putK kvs k v
    omega
  refine wpAny_dictSet_heap (hsz := small) hu (key_of J.hok hb) dd fun g dg sb => q _ ?_
  obtain ⟨ob, es, ep, ho, x2, x3, x4, _, x5⟩ := dg
  refine d_write J (by rw [hD]; exact True.intro) sb ⟨ob, ho⟩ ⟨after, ns, _, (rel.put k hb rv).keeps fun c ys e => ?_, ob, es, ep, ho, x2, x3, x4, x5⟩
  rw [upd_ne (ne_of e hD fun z => nomatch z)]
  exact e
end Dt
namespace Dt
open PySem PySem.Spec PyProof.Rows L2 Bx TL Dx Zx
section
variable {X : Cx}
/-- {k: v for target in iter if ..}, the keys tuples of ints and texts -/
def tDcT (wi : TI) (g : TG) (tt : TT) (tk tv : TE) (vs : List Nat) : TE := fun σ H Q => wi σ H fun J H1 => ∀ D, H1 D = none → ∃ W : Nat → Nat → Hp → Prop, (∃ m, W 0 m (upd H1 D (.dT []))) ∧ ∀ i m H, W i m H →
  (J.stop i H ∧ Q (.ref D) H) ∨ (J.go i H ∧ ∃ Nx : Hp → Prop, (∀ H', Nx H' → ∃ m', m' < m ∧ W (i + 1) m' H') ∧ ∀ x H', J.yld i H x H' → g x (wipe σ vs) H' fun σ2 H2 => wipe σ2 vs = wipe σ vs ∧ tt σ2 H2 fun b H3 =>
    if b = true then tk σ2 H3 fun y H4 => tv σ2 H4 fun z H5 => ∃ a kvs k, y = .ref a ∧ H5 a = some (.tup (k.map kV)) ∧ H5 D = some (.dT kvs) ∧ kvs.length < sizeLine ∧ Nx (upd H5 D (.dT (putK kvs k z))) else Nx H3)
end
end Dt
namespace Dt
open PySem PySem.Spec PyProof.Rows L2 Bx TL Dx Zx
section
variable {X : Cx}
/-- what holds between the turns: the block's slots are bare, the iterator stands at i, the measure is n -/
def Between (Y : Cx) (fp : List Addr) (tn : Nat → Heap → Prop) (W : Nat → Nat → Hp → Prop) (τ : L2.St) (n : Nat) (z : Shared) : Prop := ∃ i G, Inv Y [] τ G z ∧ tn i z.heap ∧ (∀ b ∈ fp, G b = none) ∧ W i n G
theorem dct_core {pins : List (Addr × Obj)} {s : Shared} {σ : L2.St} {H : Hp} {Q : VK} {kx vx tg iter : Expr} {ifs : List Expr} {scope : Scope} {own : List (Str × Nat)} {pos pos' : Pos} {wi : TI} {g : TG} {tt : TT} {tk tv : TE} {use : Option (Value → Sem Unit)} {Qf : Value → Shared → Prop}
    (hu : X.A.units < cLine) (calm : X.calm = true) (nod : X.N.Nodup) (J : Inv X pins σ H s) (walk : PI X tg iter wi) (ok : BlkOk X.N X.env.scope scope own)
    (pg : ∀ (z : Shared) (G : Hp) (C : Addr) (cl : List (Str × Addr)) (fp : List Addr), PG (X.blk z G scope (compEnvC scope cl C X.env) fp) tg g) (pt : ∀ (z : Shared) (G : Hp) (C : Addr) (cl : List (Str × Addr)) (fp : List Addr), PTs (X.blk z G scope (compEnvC scope cl C X.env) fp) ifs tt)
    (pk : ∀ (z : Shared) (G : Hp) (C : Addr) (cl : List (Str × Addr)) (fp : List Addr), PE (X.blk z G scope (compEnvC scope cl C X.env) fp) kx tk) (pv : ∀ (z : Shared) (G : Hp) (C : Addr) (cl : List (Str × Addr)) (fp : List Addr), PE (X.blk z G scope (compEnvC scope cl C X.env) fp) vx tv)
    (fold : ∀ x, foldedSetIterable iter X.env x = pure x) (want : tDcT wi g tt tk tv (own.map (·.2)) σ H Q)
    (back : ∀ D C z m G, Inv X pins σ G z → Q (.ref D) G → z.heap.Ns C m → FpOk X pins G C → compPost (model X.prog X.w) X.A X.xe use Qf (.ref D) C (.ok .next) z) :
    wpAny (model X.prog X.w) X.A (comprehension (.DictComp kx vx [⟨tg, iter, ifs, 0⟩] scope pos) scope X.env pos' newDict false (eval iter X.env) use) Qf X.xe s := by
  have free : ∀ y ∈ scope.names, y.2 = .free → ∃ c, X.env.cells.lookup y.1 = some c := fun y m e => (ok.free y m e).elim (fun k => J.ok.has _ (.inl k)) fun k => J.ok.has _ (.inr k)
  have names : ∀ y ∈ scope.names, y.2 = .local → scope.names.lookup y.1 = some .local := fun y m e => by
    have := ok.uniq y m
    rw [e] at this
    exact this
  refine wpAny_comprehension_free (use := use) rfl fold (closure_ok free) ok.kind names (thn (walk.run pins s σ H _ J want) fun first z1 got => thn got fun itv z2 ready => ?_)
  obtain ⟨it, fp, tn, I0, G2, rfl, J2, T, at0, out2, q⟩ := ready
  refine wpAny_newObj_type (newEnv_comp ?_)
  have bare : G2 z2.heap.objs.size = none := J2.hok.fresh (Nat.le_refl _)
  obtain ⟨W, ⟨n0, start⟩, turn⟩ := q _ bare
  have lo : ∀ b ∈ fp, b < z2.heap.objs.size := fun b m => by
    obtain ⟨u, hu2, _⟩ := T.obj _ _ at0 b m
    exact Heap.lt_size hu2
  have J3 : Inv X pins σ (upd G2 z2.heap.objs.size (.dT [])) { z2 with heap := z2.heap.push { cls := .type "dict", data := .dict #[] } } :=
    J2.laid (t' := z2.toks) (fun b o e => Heap.get?_push_of_some _ e) (Nat.le_refl _) (dt_empty z2.heap J2.big)
  have out3 : ∀ b ∈ fp, FpOk X pins (upd G2 z2.heap.objs.size (.dT [])) b ∧ b < (z2.heap.push { cls := .type "dict", data := .dict #[] }).objs.size := fun b m => by
    have l := lo b m
    refine ⟨⟨?_, (out2 b m).2⟩, ?_⟩
    · rw [upd_ne (Nat.ne_of_lt l)]
      exact (out2 b m).1
    · rw [Heap.size_push]
      exact Nat.lt_succ_of_lt l
  have at3 : tn 0 (z2.heap.push { cls := .type "dict", data := .dict #[] }) := T.keep _ _ _ at0 fun b _ o e => Heap.get?_push_of_some _ e
  generalize hD : z2.heap.objs.size = D at *
  generalize hz3 : ({ z2 with heap := z2.heap.push { cls := .type "dict", data := .dict #[] } } : Shared) = z3 at *
  have e3 : z3.heap = z2.heap.push { cls := .type "dict", data := .dict #[] } := by rw [← hz3]
  rw [← e3] at out3 at3
  have J4 := block_start J3 ok nod out3
  have bare3 : ∀ b ∈ fp, (upd G2 D (.dT [])) b = none := fun b m => (out3 b m).1.1
  generalize upd G2 D (.dT []) = G3 at J3 J4 bare3 out3 start
  generalize hcl : cellsFrom (z3.heap.objs.size + 1) scope.names (cloFrom X.env.cells scope.names []) = cl at J4 ⊢
  generalize hC : z3.heap.objs.size = C at *
  have g1 := pg z3 G3 C cl fp
  have g2 := pt z3 G3 C cl fp
  have g3 := pk z3 G3 C cl fp
  have g4 := pv z3 G3 C cl fp
  show codeAny _ _ (.compStart (.DictComp kx vx [⟨tg, iter, ifs, 0⟩] scope pos) 0 (.ref it) (.ref D) (compEnvC scope cl C X.env)) (compPost (model X.prog X.w) X.A X.xe use Qf (.ref D) C) { z3 with heap := pushCells (z3.heap.push { cls := .type "dict", data := .dict #[] }) scope.names }
  have at4 : tn 0 (pushCells (z3.heap.push { cls := .type "dict", data := .dict #[] }) scope.names) := T.keep _ _ _ at3 fun b _ o e => pushCells_keeps _ _ _ _ (Heap.get?_push_of_some _ e)
  generalize hz4 : ({ z3 with heap := pushCells (z3.heap.push { cls := .type "dict", data := .dict #[] }) scope.names } : Shared) = z4 at J4 ⊢
  have at4' : tn 0 z4.heap := by
    rw [← hz4]
    exact at4
  have cloc : (compEnvC scope cl C X.env).locals = C := rfl
  generalize compEnvC scope cl C X.env = ce at J4 g1 g2 g3 g4 cloc ⊢
  have stays : ∀ {τ : L2.St} {G : Hp} {z : Shared}, Inv (X.blk z3 G3 scope ce fp) [] τ G z → (∀ b ∈ fp, G b = none) → ∀ b ∈ fp, FpOk (X.blk z3 G3 scope ce fp) [] G b := fun J' hn b m =>
    ⟨hn b m, (J'.ok.exf b m).1, J'.ok.exfs b m, .inl m, fun x c e => (J'.ok.exf b m).2 x c e, fun p hp => absurd (show p ∈ ([] : List (Addr × Obj)) ++ [] from hp) (by simp)⟩
  have loop : codeAny (model X.prog X.w) X.A (.compLoop (.DictComp kx vx [⟨tg, iter, ifs, 0⟩] scope pos) 0 (.ref it) (.ref D) ce) (compPost (model X.prog X.w) X.A X.xe use Qf (.ref D) C) z4 := by
    refine compLoop_anyD (fun n z => Between (X.blk z3 G3 scope ce fp) fp tn W (wipe σ (own.map (·.2))) n z) (fun n z5 h5 => ?_) n0 ⟨0, G3, J4, at4', bare3, start⟩
    obtain ⟨i, G5, J5, at5, bare5, w5⟩ := h5
    rcases turn i n G5 w5 with ⟨stop, fin⟩ | ⟨go, Nx, less, step⟩
    · have over := T.done (X.blk z3 G3 scope ce fp) rfl rfl rfl calm i [] z5 _ G5 (fun _ _ => False) J5 (stays J5 bare5) at5 stop
      refine thnF over fun r z6 ⟨none_, J6⟩ => ?_
      subst none_
      have home : Inv X pins σ G5 z6 := J3.call' (ch := fp) J6.os J6.base J6.hok J6.bare fun b m => ⟨(out3 b m).1.2.2.2.1, (out3 b m).1.2.1, (out3 b m).1.2.2.2.2.1, (out3 b m).1.2.2.2.2.2⟩
      have noC : G5 C = none := by
        have f : G5 ce.locals = none := J6.free
        rwa [cloc] at f
      obtain ⟨m, ns, _⟩ := J6.loc
      have ns2 : z6.heap.Ns ce.locals m := ns
      rw [cloc] at ns2
      exact back D C z6 m G5 home fin ns2 (J3.fpOk (Nat.le_of_eq hC) noC)
    · have one := T.item (X.blk z3 G3 scope ce fp) rfl rfl rfl calm i [] z5 _ G5 (fun _ _ => False) J5 (stays J5 bare5) at5 go
      refine thnF one fun r z6 ⟨u, some_, h6⟩ => ?_
      subst some_
      refine thnF h6 fun _ z7 ⟨x, G7, J7, rx, y7, at7, bare7⟩ => ?_
      have J7p := J7.pinned (stays J7 bare7) (T.obj _ _ at7)
      refine thnF (g1.run _ z7 _ G7 x u _ J7p rx (step x G7 y7)) fun _ z8 ⟨σ8, G8, J8, clean, q8⟩ => ?_
      refine thnF (g2.run _ z8 σ8 G8 _ J8 q8) fun b z9 ⟨G9, J9, q9⟩ => ?_
      have next : ∀ {z : Shared} {G : Hp}, Inv (X.blk z3 G3 scope ce fp) ([] ++ pinsAt fp z7.heap) σ8 G z → Nx G → ∃ m, m < n ∧ Between (X.blk z3 G3 scope ce fp) fp tn W (wipe σ (own.map (·.2))) m z := fun {z G} J' nx => by
        obtain ⟨m, lt, w'⟩ := less G nx
        have held : ∀ b ∈ fp, ∀ o, z7.heap.get? b = some o → z.heap.get? b = some o ∧ G b = none := fun b m o e =>
          have k := J'.pin (b, o) (List.mem_append_right _ (List.mem_append_right _ (mem_pinsAt m e)))
          ⟨k.1, k.2.1⟩
        have long : (wipe σ (own.map (·.2))).length = σ8.length := by rw [← clean, wipe_length]
        refine ⟨m, lt, i + 1, G, (J'.unpinned (pins := [])).weak long (fun j v e => ?_), T.keep _ _ _ at7 fun b m o e => (held b m o e).1, fun b m => ?_, w'⟩
        · rw [← clean] at e
          exact (wipe_some e).1
        · obtain ⟨o, e, _⟩ := T.obj _ _ at7 b m
          exact (held b m o e).2
      cases b with
      | false =>
        simp only [Bool.false_eq_true, if_false] at q9 ⊢
        exact next J9 q9
      | true =>
        simp only [if_true] at q9 ⊢
        refine thnF (g3.run _ z9 σ8 G9 _ J9 q9) fun kv z10 ⟨y, G10, J10, ry, q10⟩ => ?_
        refine thnF (g4.run _ z10 σ8 G10 _ J10 q10) fun vv z11 ⟨v, G11, J11, rv, a, kvs, k, ey, ha, hd, small, nx⟩ => ?_
        subst ey
        cases ry
        exact put_in (X := X.blk z3 G3 scope ce fp) hu J11 hd small ha rv fun z12 J12 => next J12 nx
  exact codeAny_compStart_dict loop (T.self X.A 0 _ _ _ at4' loop)
end
end Dt
namespace Dt
open PySem PySem.Spec PyProof.Rows L2 Bx TL Dx Zx
section
variable {X : Cx}
/-- name = {k: v for ..}, the keys tuples -/
theorem ps_setDcT {i : Nat} {y : Str} {py : Pos} {kx vx tg iter : Expr} {ifs : List Expr} {scope : Scope} {own : List (Str × Nat)} {pos spos : Pos} {wi : TI} {g : TG} {tt : TT} {tk tv : TE} (hu : X.A.units < cLine) (hc : X.calm = true) (hN : X.N.Nodup) (hy : X.N[i]? = some y) (hyl : X.env.scope.names.lookup y = some .local)
    (hsw : swapsWith (.DictComp kx vx [⟨tg, iter, ifs, 0⟩] scope pos) (some (.Name y py)) spos.line X.env = pure true) (hi : PI X tg iter wi) (ok : BlkOk X.N X.env.scope scope own)
    (hg : ∀ (s : Shared) (H : Hp) (C : Addr) (cl : List (Str × Addr)) (fp : List Addr), PG (X.blk s H scope (compEnvC scope cl C X.env) fp) tg g) (ht : ∀ (s : Shared) (H : Hp) (C : Addr) (cl : List (Str × Addr)) (fp : List Addr), PTs (X.blk s H scope (compEnvC scope cl C X.env) fp) ifs tt)
    (hk : ∀ (s : Shared) (H : Hp) (C : Addr) (cl : List (Str × Addr)) (fp : List Addr), PE (X.blk s H scope (compEnvC scope cl C X.env) fp) kx tk)
    (he : ∀ (s : Shared) (H : Hp) (C : Addr) (cl : List (Str × Addr)) (fp : List Addr), PE (X.blk s H scope (compEnvC scope cl C X.env) fp) vx tv) (hs : ∀ x, foldedSetIterable iter X.env x = pure x := by intro _; rfl) :
    PS X (.Assign [.Name y py] (.DictComp kx vx [⟨tg, iter, ifs, 0⟩] scope pos) spos) (tAsg (tDcT wi g tt tk tv (own.map (·.2))) (gName i)) := by
  refine ⟨fun pins s σ H D I h => ?_⟩
  rw [exec_Assign_Name_used _ _ _ _ hsw]
  refine wpAny_bind (wpAny_standAt (wpAny_bind ?_))
  show wpAny _ X.A (do let _ ← comprehension (.DictComp kx vx [⟨tg, iter, ifs, 0⟩] scope pos) scope X.env _ newDict false (eval iter X.env) (some (assign (.Name y py) X.env))) _ _ s
  have h : tDcT wi g tt tk tv (own.map (·.2)) σ H (fun x H1 => gName i x σ H1 D.nx) := h
  refine wpAny_bind (thn (dct_core (Qf := fun _ s' => SP X pins D .next s') hu hc hN I hi ok hg ht hk he hs h fun L C s' m H' I' q hn f => ?_) fun _ s' hq => wpAny_pure (wpAny_pure hq))
  show wpAny _ _ (assign (.Name y py) X.env (.ref L)) _ _ _
  refine wpAny_assign_Name (store_ok2 (v := V.ref L) I' hN hy (.inl hyl) rfl (fun s2 I2 ⟨a, sb, ha⟩ => ?_) (.inr hyl))
  obtain ⟨f0, f1, f2, f3, f4, f5⟩ := f
  have haC : C ≠ a := by
    rcases ha with z | z
    · rw [z]; exact f1
    · exact fun e => f4 y a z e.symm
  refine ⟨m, hn.sameBut sb haC, fun h3 sb3 => ?_⟩
  exact ⟨_, H', I2.turned (t' := s2.toks) (fun b o hb e => (sb3.2 b hb).trans e) f0 f1 f3 f4 f5, q⟩
end
/-- over a walk -/
theorem dct_it {J : It} {n : Nat} {G : Hp → Prop} {Y : Nat → Hp → V → Hp → Prop} (w : Walk J n G Y) {g : TG} {tt : TT} {tk tv : TE} {vs : List Nat} {σ : L2.St} {H1 : Hp} {D : Addr} {Qd : Hp → Prop} (Pv : Nat → Hp → Prop) (h0 : Pv 0 (upd H1 D (.dT []))) (hG : ∀ i H, i ≤ n → Pv i H → G H)
    (hs : ∀ i x H H', i < n → Pv i H → Y i H x H' → g x (wipe σ vs) H' fun σ2 H2 => wipe σ2 vs = wipe σ vs ∧ tt σ2 H2 fun b H3 =>
      if b = true then tk σ2 H3 fun y H4 => tv σ2 H4 fun z H5 => ∃ a kvs k, y = .ref a ∧ H5 a = some (.tup (k.map kV)) ∧ H5 D = some (.dT kvs) ∧ kvs.length < sizeLine ∧ Pv (i + 1) (upd H5 D (.dT (putK kvs k z))) else Pv (i + 1) H3) (hd : ∀ H, Pv n H → Qd H) :
    ∃ W : Nat → Nat → Hp → Prop, (∃ m, W 0 m (upd H1 D (.dT []))) ∧ ∀ i m H, W i m H →
      (J.stop i H ∧ Qd H) ∨ (J.go i H ∧ ∃ Nx : Hp → Prop, (∀ H', Nx H' → ∃ m', m' < m ∧ W (i + 1) m' H') ∧ ∀ x H', J.yld i H x H' → g x (wipe σ vs) H' fun σ2 H2 => wipe σ2 vs = wipe σ vs ∧ tt σ2 H2 fun b H3 =>
        if b = true then tk σ2 H3 fun y H4 => tv σ2 H4 fun z H5 => ∃ a kvs k, y = .ref a ∧ H5 a = some (.tup (k.map kV)) ∧ H5 D = some (.dT kvs) ∧ kvs.length < sizeLine ∧ Nx (upd H5 D (.dT (putK kvs k z))) else Nx H3) :=
  walk_any (B := fun (Nx : Hp → Prop) x H' => g x (wipe σ vs) H' fun σ2 H2 => wipe σ2 vs = wipe σ vs ∧ tt σ2 H2 fun b H3 =>
        if b = true then tk σ2 H3 fun y H4 => tv σ2 H4 fun z H5 => ∃ a kvs k, y = .ref a ∧ H5 a = some (.tup (k.map kV)) ∧ H5 D = some (.dT kvs) ∧ kvs.length < sizeLine ∧ Nx (upd H5 D (.dT (putK kvs k z))) else Nx H3) w Pv h0 hG hs hd
end Dt
namespace Dt
open PySem PySem.Spec PyProof.Rows L2
/-- e.f within a block: the written part is named -/
theorem pe_fldK {X : Cx} {K : PySem.W.Frag} {e : Expr} {f : Str} {pos : Pos} {ta : TE} (h : X.K = K) (he : PE X e ta) (hb : attributeBase e f X.env (eval e X.env) = eval e X.env) : PE X (.Attribute e f pos) (tFld K ta f) := by
  subst h
  exact pe_fld he hb
end Dt
/-! a comprehension within another one's block -/
namespace Nx
open PySem PySem.Spec PyProof.Rows L2
theorem rel_eq {scope : Scope} {env : Env} {sc : Scope} (h : env.scope = sc) : relabel scope env = relS scope sc := by
  subst h
  rfl
theorem blkOk_nest {N : List Str} {sc scope1 scope : Scope} {cl : List (Str × Addr)} {C : Addr} {env : Env} {own : List (Str × Nat)} (he : env.scope = sc) (h : blkC N (relS scope1 sc) scope own = true) : BlkOk N (compEnvC scope1 cl C env).scope scope own := by
  have e : (compEnvC scope1 cl C env).scope = relS scope1 sc := rel_eq he
  rw [e]
  exact blkOk_by h
/-- d.setdefault(t, v), t a tuple of ints and texts -/
def rSetdT : V → List V → Hp → VK → Prop := fun x vs H Q => ∃ (a b : Addr) (kvs : List (List Key × V)) (k : List Key) (v : V), x = .ref a ∧ vs = [.ref b, v] ∧ H a = some (.dT kvs) ∧ H b = some (.tup (k.map kV)) ∧ kvs.length < sizeLine ∧
  (∀ u, valV kvs k = some u → Q u H) ∧ (valV kvs k = none → Q v (upd H a (.dT (putK kvs k v))))
theorem mt_setdT {X : Cx} (hu : X.A.units + 1 < cLine) : MtR X "dict.setdefault" rSetdT := by
  intro pins s σ H x xs v us Q I rx rs q
  obtain ⟨a, b, kvs, k, y, rfl, rfl, ea, eb, hl, w1, w2⟩ := q
  cases rx
  cases rs with
  | cons r1 rs =>
    cases rs with
    | cons r2 rs =>
      cases rs
      cases r1
      obtain ⟨z, hd, xs0, rel, dd⟩ := dt_of I.hok ea
      have hz : xs0.length ≤ sizeLine := by rw [← Paired.length rel]; exact z
      have hl2 : (putK kvs k y).length ≤ sizeLine := by have := length_putK kvs k y; omega
      refine call_setdefault_heap (hsz := hz) (tupleKind_room_in1 hu) (key_of I.hok eb) hd dd (fun p hp => ?_) fun hn h' dd' hs => ?_
      · have rr := rel.val k
        rw [hp] at rr
        cases e : valV kvs k with
        | none =>
          rw [e] at rr
          have := rr.isSome_eq
          cases this
        | some u =>
          rw [e] at rr
          exact ⟨u, H, I.tok _, rr, w1 u e⟩
      · have rr := rel.val k
        rw [hn] at rr
        have e : valV kvs k = none := by
          cases e : valV kvs k with
          | none => rfl
          | some u =>
            rw [e] at rr
            have := rr.isSome_eq
            cases this
        obtain ⟨q, es, ep, hq, h2, h3, h4, _, h5⟩ := dd'
        refine ⟨y, upd H a (.dT (putK kvs k y)), d_write I (by rw [ea]; exact True.intro) hs ⟨q, hq⟩ ⟨hl2, hd, _, (rel.put k eb r2).keeps fun c ys ec => ?_, q, es, ep, hq, h2, h3, h4, h5⟩, r2, w2 e⟩
        rw [upd_ne (ne_of ec ea (fun z => nomatch z))]
        exact ec
end Nx
/-! C() of an own class that has no `__init__`. -/
namespace Mk0
open PySem PySem.Spec PyProof.Rows L2 Ow
structure Bare (K : PySem.W.Frag) (mg : Str → Option Value) (x : Str) (C : Addr) : Prop where
  make : PySem.W.makesIn K C = true
  ini : PySem.W.findIn K (.ref C) "__init__" = some (some (.builtin "object.__init__"))
  kp : PySem.W.keepIn K (.ref C) = true
  g : mg x = some (.ref C)
section
variable {X : Cx} {pins : List (Addr × Obj)} {σ : L2.St} {H : Hp} {s : Shared} {C : Addr} {Q : VK} {x : Str} {p pos : Pos}
def tBare (C : Addr) : TE := fun _ H Q => ∀ y dy, H y = none → H dy = none → dy ≠ y → Q (.ref y) (upd (upd H dy (.own y)) y (.ins C dy []))
theorem run_bare (B : Bare X.K X.mg x C) (I : Inv X pins σ H s) (h : tBare C σ H Q) : wpAny (model X.prog X.w) X.A (call (.ref C) []) (EP X pins σ Q) X.xe s := by
  have hq := h (s.heap.objs.size + 1) s.heap.objs.size (I.hok.fresh (Nat.le_succ _)) (I.hok.fresh (Nat.le_refl _)) (Nat.ne_of_lt (Nat.lt_succ_self _))
  have I2 := Inv.made (C := C) I
  have XK := I.kIn
  obtain ⟨hh, g, d, t, os⟩ := s
  have Y := PySem.W.makes_of (M := model X.prog X.w) XK B.make
  refine wpAny_call (PySem.W.make_core Y (PySem.W.looks_findIn XK B.ini) (fun self => PySem.W.Looks.of_pure (PySem.W.oi_bind self)) (.inr ⟨rfl, rfl⟩) ?_)
  have hx : ((hh.push PySem.W.emptyDict).push (PySem.W.instObj C hh.objs.size)).get? (hh.objs.size + 1) = some (PySem.W.instObj C hh.objs.size) := by
    have := Heap.get?_push_size (hh.push PySem.W.emptyDict) (o := PySem.W.instObj C hh.objs.size) rfl
    rwa [Heap.size_push] at this
  have t1 : PySem.W.Looks (model X.prog X.w) ((hh.push PySem.W.emptyDict).push (PySem.W.instObj C hh.objs.size)) (typeOf (.ref (hh.objs.size + 1))) (.ref C) := (PySem.W.Looks.ld hx).andThen .now
  have t2 : PySem.W.Looks (model X.prog X.w) ((hh.push PySem.W.emptyDict).push (PySem.W.instObj C hh.objs.size)) (isInstance (.ref (hh.objs.size + 1)) (.type "object")) true := t1.andThen (Y.top.keeps fun b o e => Heap.get?_push_of_some _ (Heap.get?_push_of_some _ e))
  refine PySem.codeAny_call_builtin PySem.W.oi_plain PySem.W.entry_oi (@PySem.W.check_slot (model X.prog X.w) _ _ _ "object.__init__" "object" "__init__" (.ref (hh.objs.size + 1)) [] [] _ PySem.W.oi_kind PySem.W.oi_split t2 (PySem.W.oi_args (.ref (hh.objs.size + 1))) ?_)
  rw [PySem.W.oi_run]
  exact wpAny_pure (And.intro rfl ⟨V.ref (hh.objs.size + 1), _, I2, rfl, hq⟩)
theorem pe_bare (B : Bare X.K X.mg x C) (hg : Gl X x := by rfl) (hdb : (x == ("__debug__" : Str)) = false := by decide) : PE X (.Call (.Name x p) [] [] pos) (tBare C) := by
  refine ⟨fun pins s σ H Q I h => ?_⟩
  refine wpAny_Call_Name_kw (ld_glob I hg B.g ?_ hdb)
  exact PySem.W.callWith_K0 I.kIn B.kp (run_bare B I h)
end
end Mk0
/-! super().m(..) in a method of an own class, m a def of the class above: as the value of a `return .. and ..`, or in an `if not ..`. -/
namespace SupM
open PySem PySem.Spec PyProof.Rows L2 NdefX Sup Ow
section
variable {X : Cx} {pins : List (Addr × Obj)} {σ : List (Option V)} {H : Hp} {s : Shared} {self m : Str} {D a C dx g : Addr} {fs : List (Str × V)} {body : List Stmt} {p0 p1 p2 pos pos' : Pos} {e : Expr} {es : List Expr} {ta : TA} {pl : Sem Bool} {k : Nat} {sp : Sp} {Q : VK}
/-- the class above has the def g under the name m -/
structure SupA (K : PySem.W.Frag) (C D : Addr) (m : Str) (g : Addr) : Prop where
  cls : ∃ cd, PySem.W.clsIn K D = some cd
  sub : PySem.W.mroIn K C (.ref D) = some true
  sup : PySem.W.ks_superIn K C D m = some (some (.ref g))
  ty : PySem.W.typeIn K (.ref g) = some (.type "function")
  fn : PySem.W.fnIn K g = true
  nc : (m == ("__class__" : Str)) = false
theorem sup_eval (I : Inv X pins σ H s) (S : SupF X.prog X.K X.mg X.env self D) (T : SupA X.K C D m g) (F : FnR X.prog X.w X.K X.mg X.base CX0 k g sp) (hr : Room k X.A) (hN : X.N[0]? = some self) (h0 : σ[0]? = some (some (.ref a))) (ea : H a = some (.ins C dx fs)) (ha : PA X (e :: es) ta)
    (h : ta σ H fun vs H2 => sp (.ref a :: vs) H2 Q E0)
    (hev : eval (.Call (.Attribute (.Call (.Name "super" p0) [] [] p1) m p2) (e :: es) [] pos) X.env = (do
      let ov ← attributeBase (.Call (.Name "super" p0) [] [] p1) m X.env (eval (.Call (.Name "super" p0) [] [] p1) X.env)
      standAt p2.atName
      let (f, first) ← holding [ov] (getMethod ov m pl)
      callWith pos f first (backTo pos (starEach (e :: es) X.env)) []) := by rfl)
    (he : starEach (e :: es) X.env = (false, eval e X.env) :: starEach es X.env := by rfl) (hpl : (backTo pos (starEach es X.env)).any (·.1) = false := by rfl) :
    _root_.PySem.wpAt (model X.prog X.w) X.A (.func body X.env) (eval (.Call (.Attribute (.Call (.Name "super" p0) [] [] p1) m p2) (e :: es) [] pos) X.env) (EP X pins σ Q) X.xe s := by
  refine ks_wpAt_MethodCall ?_ hev
  obtain ⟨f, oc, od, fd, osl, ar, hfu, lf, hp, har⟩ := S.fn
  obtain ⟨cda, ccl, cdd, vs, ccs, file, tf, hco, lc, hvs, hfile⟩ := S.co
  obtain ⟨cc, cl, cld, csl, hcl, lcc⟩ := S.ce
  obtain ⟨mm, v, hn, hv, rv⟩ := self_at I hN h0 S.ka
  obtain rfl : v = Value.ref a := rv
  obtain ⟨oi, inst⟩ := inst_of I ea
  obtain ⟨cdD, hD⟩ := T.cls
  have XK := I.kIn
  obtain ⟨oD, hD1, hD2⟩ : ∃ oD, s.heap.get? D = some oD ∧ oD.data = .cls cdD := by
    unfold PySem.W.clsIn at hD
    split at hD
    · rename_i c d cd' sl ho
      cases hD
      exact ⟨_, XK _ _ ho, rfl⟩
    · cases hD
  refine ks_wpAt_super_base S.ks S.kc T.nc hfu (XK _ _ lf) rfl hp hco (XK _ _ lc) rfl hvs hfile S.top ?_
  refine ld_super I S ⟨rfl, ?_⟩
  refine wpAny_loadName_free I.ok.kind S.kc hcl ⟨_, XK _ _ lcc, rfl⟩ ?_
  refine wpAny_loadName_local I.ok.kind (har ▸ S.ka) hn (har ▸ hv) ?_
  refine ks_wpAny_isType_cls hD1 hD2 ⟨rfl, ?_⟩
  obtain ⟨hp0, gg, d, t, os⟩ := s
  refine ks_wpAny_call_super hD1 hD2 inst.at_ rfl (fun c e => by cases e) (PySem.W.looks_mroIn XK T.sub) fun h' eso k2 => ?_
  have I2 : Inv X pins σ H ⟨h', gg, d, t, os⟩ := I.kept (t' := t) k2
  have XK2 := I2.kIn
  have sup := T.sup
  unfold PySem.W.ks_superIn at sup
  cases hc : PySem.W.clsIn X.K C with
  | none =>
    rw [hc] at sup
    cases sup
  | some cd =>
    rw [hc] at sup
    obtain ⟨oi2, inst2⟩ := inst_of I2 ea
    obtain ⟨of, hof, hofc⟩ : ∃ of, h'.get? g = some of ∧ of.cls = .type "function" := by
      have ht' : (X.K.lookup g).map (·.cls) = some (.type "function") := T.ty
      cases z : X.K.lookup g with
      | none => rw [z] at ht'; cases ht'
      | some of => rw [z] at ht'; exact ⟨of, XK2 _ _ z, Option.some.inj ht'⟩
    refine ks_wpAny_getMethod_super eso (PySem.W.looks_opaque XK2 S.any) (l₀ := cd.mro) ?_ rfl XK2 sup hof hofc (PySem.W.ks_ne XK2 inst2 hc) T.nc ?_
    · exact fun A Q E s k q => wpAny_bind ((PySem.W.looks_clsIn XK2 hc) A _ E s k (wpAny_pure q))
    · have I3 := ClX.met_new (g := g) (C := a) I2
      refine ClX.callwith_cm I3 (ClX.base_none I2 (Nat.le_refl _)) T.fn (thn (ha.run pos _ _ σ H _ I3 h) fun us s3 ⟨vs, H2, I4, rv, q2⟩ => ⟨⟨ClX.pin_at I4, I4.kIn⟩, ?_⟩) he hpl
      exact ClX.run_cm F hr L2.pass0 I4 rv q2
end
/-! ### expressions, tests, statements that know the body they stand in -/
section
variable {M : Model} {A : Around} {c : Code} {E : Value → Shared → Prop} {s : Shared} {env : Env}
theorem at_and {e₁ e₂ : Expr} {rest : List Expr} {pos : Pos} {Q : Value → Shared → Prop}
    (h : _root_.PySem.wpAt M A c (eval e₁ env) (fun v s₁ => wpAny M A (truthy v) (fun c s₂ => if c then wpAny M A (eval (.BoolOp .And (e₂ :: rest) pos) env) Q E s₂ else Q v s₂) E s₁) E s) :
    _root_.PySem.wpAt M A c (eval (.BoolOp .And (e₁ :: e₂ :: rest) pos) env) Q E s := by
  show _root_.PySem.wpAt M A c (do
    let v ← eval e₁ env
    standAt pos
    let c ← holding [v] (truthy v)
    match BoolOp.And, c with
    | .And, false | .Or, true => pure v
    | _, _ => boolOp pos .And (eval e₂ env :: evalEach rest env)) Q E s
  refine _root_.PySem.wpAt_bind (ks_wpAt_mono h (fun v s₁ h₁ => wpAt_of_wpAny (wpAny_bind (wpAny_standAt (wpAny_bind (wpAny_holding (wpAny_mono h₁ (fun c s₂ h₂ => ?_) fun _ _ x => x)))))) fun _ _ x => x)
  cases c with
  | false => exact wpAny_pure h₂
  | true => exact h₂
theorem at_not {x : Expr} {pos : Pos} {whole : Sem Value} {Q : Bool → Shared → Prop} (h : _root_.PySem.wpAt M A c (isTrue x env (eval x env)) (fun c s' => Q (!c) s') E s) :
    _root_.PySem.wpAt M A c (isTrue (.UnaryOp .Not x pos) env whole) Q E s := by
  show _root_.PySem.wpAt M A c (do return !(← isTrue x env (eval x env))) Q E s
  exact _root_.PySem.wpAt_bind (ks_wpAt_mono h (fun c s' h' => wpAt_of_wpAny (wpAny_pure h')) fun _ _ x => x)
theorem at_or {x : Expr} {rest : List Expr} {pos : Pos} {whole : Sem Value} {Q : Bool → Shared → Prop}
    (h : _root_.PySem.wpAt M A c (isTrue x env (eval x env)) (fun c s' => if c then Q true s' else wpAny M A (isTrue (.BoolOp .Or rest pos) env whole) Q E s') E s) :
    _root_.PySem.wpAt M A c (isTrue (.BoolOp .Or (x :: rest) pos) env whole) Q E s := by
  show _root_.PySem.wpAt M A c (do
    match BoolOp.Or, ← isTrue x env (eval x env) with
    | .And, false => pure false
    | .Or, true => pure true
    | _, _ => allTrue .Or rest env) Q E s
  refine _root_.PySem.wpAt_bind (ks_wpAt_mono h (fun c s' h' => wpAt_of_wpAny ?_) fun _ _ x => x)
  cases c with
  | false => exact h'
  | true => exact wpAny_pure h'
end
section
variable {X : Cx} {body : List Stmt} {e a b : Expr} {rest : List Expr} {st : Stmt} {sts : List Stmt} {pos : Pos} {te ta tb : TE} {tA tB' : TT} {t u : TS}
structure PEa (X : Cx) (body : List Stmt) (e : Expr) (te : TE) : Prop where
  run : ∀ pins s σ H Q, Inv X pins σ H s → te σ H Q → _root_.PySem.wpAt (model X.prog X.w) X.A (.func body X.env) (eval e X.env) (EP X pins σ Q) X.xe s
structure PTa (X : Cx) (body : List Stmt) (e : Expr) (t : TT) : Prop where
  run : ∀ pins s σ H Q, Inv X pins σ H s → t σ H Q → _root_.PySem.wpAt (model X.prog X.w) X.A (.func body X.env) (isTrue e X.env (eval e X.env)) (TP X pins σ Q) X.xe s
structure PSa (X : Cx) (body : List Stmt) (st : Stmt) (t : TS) : Prop where
  run : ∀ pins s σ H D, Inv X pins σ H s → t D σ H → _root_.PySem.wpAt (model X.prog X.w) X.A (.func body X.env) (exec st X.env) (SP X pins D) X.xe s
structure PSsa (X : Cx) (body : List Stmt) (sts : List Stmt) (t : TS) : Prop where
  run : ∀ pins s σ H D, Inv X pins σ H s → t D σ H → _root_.PySem.wpAt (model X.prog X.w) X.A (.func body X.env) (execs sts X.env) (SP X pins D) X.xe s
/-- super().m(..), self the first name -/
def tSupM (C : Addr) (sp : Sp) (ta : TA) : TE := fun σ H Q => ∃ a dx fs, σ[0]? = some (some (.ref a)) ∧ H a = some (.ins C dx fs) ∧ ta σ H fun vs H2 => sp (.ref a :: vs) H2 Q E0
theorem pea_sup {self m : Str} {D C g : Addr} {k : Nat} {sp : Sp} {p0 p1 p2 : Pos} {es : List Expr} {ta : TA} {pl : Sem Bool} (S : SupF X.prog X.K X.mg X.env self D) (T : SupA X.K C D m g) (F : FnR X.prog X.w X.K X.mg X.base CX0 k g sp) (hr : Room k X.A) (hN : X.N[0]? = some self) (ha : PA X (e :: es) ta)
    (hev : eval (.Call (.Attribute (.Call (.Name "super" p0) [] [] p1) m p2) (e :: es) [] pos) X.env = (do
      let ov ← attributeBase (.Call (.Name "super" p0) [] [] p1) m X.env (eval (.Call (.Name "super" p0) [] [] p1) X.env)
      standAt p2.atName
      let (f, first) ← holding [ov] (getMethod ov m pl)
      callWith pos f first (backTo pos (starEach (e :: es) X.env)) []) := by rfl)
    (he : starEach (e :: es) X.env = (false, eval e X.env) :: starEach es X.env := by rfl) (hpl : (backTo pos (starEach es X.env)).any (·.1) = false := by rfl) :
    PEa X body (.Call (.Attribute (.Call (.Name "super" p0) [] [] p1) m p2) (e :: es) [] pos) (tSupM C sp ta) :=
  ⟨fun _ _ _ _ _ I ⟨_, _, _, h0, ea, h⟩ => sup_eval I S T F hr hN h0 ea ha h hev he hpl⟩
theorem pea_and (ha : PEa X body a ta) (hb : PE X (.BoolOp .And (b :: rest) pos) tb) : PEa X body (.BoolOp .And (a :: b :: rest) pos) (tAndV ta tb) := by
  refine ⟨fun pins s σ H Q I h => ?_⟩
  refine at_and (ks_wpAt_mono (ha.run pins s σ H _ I h) (fun v s1 ⟨x, H1, I1, r1, q1⟩ => ?_) fun _ _ z => z)
  obtain ⟨c, rfl, q1⟩ := q1
  cases r1
  refine wpAny_truthy_bool ?_
  cases c with
  | true => exact hb.run pins s1 σ H1 Q I1 q1
  | false => exact ⟨.bl false, H1, I1, rfl, q1⟩
theorem pta_val (h : PEa X body e te) (he : ∀ whole, isTrue e X.env whole = (do let v ← whole; standAt e.pos; holding [v] (truthy v)) := by intro _; rfl) : PTa X body e (tB te) := by
  refine ⟨fun pins s σ H Q I hw => ?_⟩
  rw [he]
  refine _root_.PySem.wpAt_bind (ks_wpAt_mono (h.run pins s σ H _ I hw) (fun v s1 ⟨x, H1, I1, r1, q1⟩ => wpAt_of_wpAny (wpAny_bind (wpAny_standAt (wpAny_holding ?_)))) fun _ _ z => z)
  obtain ⟨d, rfl, q⟩ := q1
  cases r1
  exact wpAny_truthy_bool ⟨H1, I1, q⟩
theorem pta_not (h : PTa X body a tA) : PTa X body (.UnaryOp .Not a pos) (tNot tA) := ⟨fun pins s σ H Q I hw => at_not (h.run pins s σ H (fun c H1 => Q (!c) H1) I hw)⟩
theorem pta_or (ha : PTa X body a tA) (hb : PW X (.BoolOp .Or (b :: rest) pos) tB') : PTa X body (.BoolOp .Or (a :: b :: rest) pos) (tOr tA tB') := by
  refine ⟨fun pins s σ H Q I h => ?_⟩
  refine at_or (ks_wpAt_mono (ha.run pins s σ H _ I h) (fun c s1 ⟨H1, I1, q1⟩ => ?_) fun _ _ z => z)
  cases c with
  | true => exact ⟨H1, I1, q1⟩
  | false => exact hb.run _ pins s1 σ H1 Q I1 q1
theorem psa_ret (h : PEa X body e te) : PSa X body (.Return (some e) pos) (tRet te) :=
  ⟨fun pins s σ H D I w => ks_wpAt_Return_some (ks_wpAt_mono (h.run pins s σ H _ I w) (fun v s1 ⟨x, H1, I1, r1, q1⟩ => ⟨x, σ, H1, I1, r1, q1⟩) fun _ _ z => z)⟩
theorem psa_if {c : Expr} {x y : List Stmt} {tc : TT} (hc : PTa X body c tc) (ha : PSs X x t) (hb : PSs X y u) : PSa X body (.If c x y pos) (tIfS tc t u) := by
  refine ⟨fun pins s σ H D I h => ?_⟩
  refine ks_wpAt_If (ks_wpAt_mono (hc.run pins s σ H _ I h) (fun d s1 ⟨H1, I1, q1⟩ => ?_) fun _ _ z => z)
  cases d with
  | true => exact wpAt_of_wpAny (ha.run pins s1 σ H1 D I1 q1)
  | false => exact wpAt_of_wpAny (hb.run pins s1 σ H1 D I1 q1)
theorem PSa.of (h : PS X st t) : PSa X body st t := ⟨fun pins s σ H D I w => wpAt_of_wpAny (h.run pins s σ H D I w)⟩
theorem PSsa.of (h : PSs X sts t) : PSsa X body sts t := ⟨fun pins s σ H D I w => wpAt_of_wpAny (h.run pins s σ H D I w)⟩
theorem pssa_cons (h : PSa X body st t) (hs : PSsa X body sts u) : PSsa X body (st :: sts) (tSeq t u) := by
  refine ⟨fun pins s σ H D I w => ?_⟩
  refine ks_wpAt_execs_cons (ks_wpAt_mono (h.run pins s σ H _ I w) (fun fl s1 hf => ?_) fun _ _ z => z)
  cases fl with
  | next =>
    obtain ⟨σ', H', J, q⟩ := hf
    exact hs.run pins s1 σ' H' D J q
  | brk => exact hf
  | cont => exact hf
  | ret u => exact hf
theorem pssa_one (h : PSa X body st t) : PSsa X body [st] t := by
  refine ⟨fun pins s σ H D I w => ?_⟩
  refine ks_wpAt_execs_cons (ks_wpAt_mono (h.run pins s σ H _ I w) (fun fl s1 hf => ?_) fun _ _ z => z)
  cases fl with
  | next => exact wpAt_of_wpAny (wpAny_execs_nil hf)
  | brk => exact hf
  | cont => exact hf
  | ret u => exact hf
end
section
variable {CX : CXT} {P : Program} {w : World} {K : PySem.W.Frag} {mg : Str → Option Value} {base : Heap} {k : Nat} {F : NF} {f cc D : Addr} {kV doc pm ct oc : Value} {an od : Option Addr} {osl : Array (Option Value)} {N ps : List Str} {sp : Sp}
/-- a def with the class's cell, whose body says super() -/
theorem fn_at (lk : K.lookup f = some ⟨oc, od, .func (PySem.W.fnX F.name F.qual F.params F.body F.scope F.cl .none kV doc pm an (.ref F.c) ct), osl⟩) (hcd : PySem.W.codeIn K (.ref F.c) F.qual = true) (hcl : F.cl = [(("__class__" : Str), cc)])
    (hcc : ∃ cl cld csl, K.lookup cc = some ⟨cl, cld, .cell (some (.ref D)), csl⟩) (S : NScope N ps ["__class__"] F.scope)
    (len : ∀ vs H Q E, sp vs H Q E → vs.length = ps.length)
    (hbody : ∀ (A : Around) (outer : List Env) (s : Shared) (H : Hp) (vs : List V) (Q : VK) (E : XK), Room k (A.deeper (envF F f s.heap.objs.size)) → sp vs H Q E →
      ∃ t : TS, PSsa (ncx CX P w K mg base N F f A outer s H E) F.body F.body t ∧ t { nx := fun _ H' => Q .non H', rt := Q } (startF N vs [none]) H) :
    FnOk P w K mg base CX (k + 1) f (PySem.W.fnX F.name F.qual F.params F.body F.scope F.cl .none kV doc pm an (.ref F.c) ct) ps sp := by
  refine ⟨len, fun A outer s H args us vs Q E hr e0 hb r hsp => ?_⟩
  have hl := len _ _ _ _ hsp
  have KX : K.In s.heap := e0.mod.kin.keeps fun b o e => (e0.bs b o e).1
  have lim : s.heap.NoLimit := e0.mod.nolimit.keeps fun b o e => (e0.bs b o e).1
  obtain ⟨cl, cld, csl, hcc⟩ := hcc
  have C : CellsAt F.cl ["__class__"] [none] s.heap H := by
    have one : ∀ {y : Str} {c : Addr}, F.cl.lookup y = some c → y = "__class__" ∧ c = cc := fun {y c} e => by
      rw [hcl] at e
      by_cases h : y = ("__class__" : Str)
      · subst h
        have e2 : some cc = some c := e
        exact ⟨rfl, (Option.some.inj e2).symm⟩
      · have h2 : (y == ("__class__" : Str)) = false := by simpa using h
        rw [List.lookup_cons, h2] at e
        cases e
    refine ⟨rfl, fun y c e => ?_, fun x y c e1 e2 => (one e1).1.trans (one e2).1.symm, fun i y hi => ?_⟩
    · rw [(one e).2]
      exact ⟨(e0.bs _ _ (e0.mod.kin _ _ hcc)).2, _, ⟨_, KX _ _ hcc, rfl⟩⟩
    · cases i with
      | zero =>
        have e : ("__class__" : Str) = y := Option.some.inj hi
        refine ⟨cc, by rw [hcl, ← e]; rfl, fun v hv => ?_⟩
        cases hv
      | succ i => cases hi
  refine ks_codeAny_call_defAt hr.depth (KX _ _ lk) rfl lim (PySem.W.codeRec_of KX hcd) rfl hb S.nocell (fun ⟨n, v⟩ hy => S.par n (List.of_mem_zip hy).1) (fun h₁ hns kp => ?_) S.co S.gen S.kind
  show _root_.PySem.wpAt (model P w) (A.deeper (envF F f s.heap.objs.size)) (.func F.body (envF F f s.heap.objs.size)) (execs F.body (envF F f s.heap.objs.size)) _ _ _
  obtain ⟨t, ps', hq⟩ := hbody A outer s H vs Q E (hr.deeper _) hsp
  have I : Inv (ncx CX P w K mg base N F f A outer s H E) [] (startF N vs [none]) H { s with heap := h₁, toks := s.toks + (ps.zip us).length } := inv_startN S hr.hd e0 hl r C hns kp
  have fin : ∀ {s' : Shared} {σ' : L2.St} {H' : Hp} {v : V} {u : Value}, Inv (ncx CX P w K mg base N F f A outer s H E) [] σ' H' s' → L2.RelV v u → Q v H' → CE outer P w H s Q u s' :=
    fun {s' σ' H' v u} J rv q => ⟨v, H', J.os, J.bare, J.base, J.hok, rv, q⟩
  refine ks_wpAt_mono (ps'.run [] _ (startF N vs [none]) H _ I hq) (fun fl s' hs => ?_) fun e s' hs => hs
  cases fl with
  | ret u =>
    obtain ⟨v, σ', H', J, rv, q⟩ := hs
    exact fin J rv q
  | next =>
    obtain ⟨σ', H', J, q⟩ := hs
    exact fin (v := V.non) (u := Value.none) J rfl q
  | brk =>
    obtain ⟨_, _, _, q⟩ := hs
    exact False.elim q
  | cont =>
    obtain ⟨_, _, _, q⟩ := hs
    exact False.elim q
end
end SupM
/-! sorted(xs), xs a list of data (alike tuples, ..), any length: the stable sort by the order of data. -/
namespace So
open PySem PySem.Spec PyProof.Rows L2 Bx TL Dx PySem.W
section
variable {X : Cx} {pins : List (Addr × Obj)} {σ : L2.St} {H : Hp} {s : Shared}
theorem each_of (I : Inv X pins σ H s) : ∀ {vs : List V} {us : List Value} {ds : List PyData}, DpAll X.K H vs ds → Vals vs us → EachIs (fun u d => (∃ v, Dp X.K H v d ∧ L2.RelV v u) ∧ ∃ as, Reads s.heap u d as) us ds
  | [], [], [], _, _ => .nil
  | v :: vs, u :: us, d :: ds, h, r => by
    cases h with
    | cons h1 h2 =>
      cases r with
      | cons r1 r2 => exact .cons ⟨⟨v, h1, r1⟩, Dp.reads I d v u h1 r1⟩ (each_of I h2 r2)
  | [], _ :: _, _, _, r => by cases r
  | _ :: _, [], _, _, r => by cases r
  | [], [], _ :: _, h, _ => by cases h
  | _ :: _, _ :: _, [], h, _ => by cases h
theorem each_back {K : Frag} : ∀ {us : List Value} {ds : List PyData}, EachIs (fun u d => ∃ v, Dp K H v d ∧ L2.RelV v u) us ds → ∃ vs, Vals vs us ∧ DpAll K H vs ds
  | _, _, .nil => ⟨[], .nil, .nil⟩
  | _, _, .cons ⟨v, h, r⟩ t => by
    obtain ⟨vs, r2, h2⟩ := each_back t
    exact ⟨v :: vs, .cons r r2, .cons h h2⟩
def dle : PyData → PyData → Bool := dataLe false id
def rSortD (K : Frag) : List V → Hp → VK → Prop := fun xs H Q => ∃ (a : Addr) (vs : List V) (ds : List PyData), xs = [V.ref a] ∧ SqL K H a vs ∧ DpAll K H vs ds ∧ AllAlike ds ∧ Sortable ds ∧ ds.length ≤ sizeLine ∧ (∀ d ∈ ds, d.depth ≤ 60) ∧
  ∀ (ys : List V) (p : Addr), H p = none → DpAll K H ys (ds.mergeSort dle) → Q (.ref p) (upd H p (.lst ys))
theorem cr_sortD (hu : X.A.units + 65 < cLine) : CallR X (.builtin "sorted") (rSortD X.K) := by
  intro pins s σ H xs us Q I r h
  obtain ⟨a, vs, ds, rfl, hs, hd, hal, hso, hz, hdp, q⟩ := h
  cases r with
  | cons r1 r2 =>
    cases r2
    cases r1
    obtain ⟨its, rv, hl, _⟩ := I.list hs
    have ea := each_of I hd rv
    refine sorted_data (bs := ds) (enc := id) (R := fun u d => ∃ v, Dp X.K H v d ∧ L2.RelV v u) hl.isList (ea.mono fun _ _ z => z.1) (ea.mono fun _ _ z => z.2) (by rw [List.map_id]; exact hal) (by rw [List.map_id]; exact hso) hz (fun d hd => ?_) fun out hlen eo => ?_
    · have := hdp d hd
      show X.A.units + 2 + d.depth < cLine
      omega
    · obtain ⟨ys, ry, dy⟩ := each_back eo
      obtain ⟨ep, he'⟩ := PyProof.Rows.sortedAll_at s.heap its out.toArray
      have hyl : ys.length = ds.length := by rw [ry.length, hlen]
      exact ⟨.ref _, upd H (s.heap.objs.size + 1) (.lst ys), I.laid (t' := s.toks) (fun _ _ => PyProof.Rows.sortedAll_old) (Nat.le_succ _) ⟨by rw [hyl]; exact hz, out, ep, ry, by simpa using he'⟩, rfl, q ys _ (I.hok.fresh (Nat.le_succ _)) dy⟩
end
end So
/-! Sets of nested tuples of ints and texts, fewer than 64 members: set(xs), sorted(..), `in`. -/
namespace Sd
open PySem PySem.Spec PyProof.Rows L2
abbrev NK := PySem.NestedKey
/-- the tuple at a is the key k -/
def Is8 (h : PySem.Heap) (k : NK) (a : Addr) : Prop := NestedIs h k (.ref a) ∧ k.depth ≤ 8
def ClsAt (P : Program) (w : World) (n : Nat) (s : Shared) (v : Value) : Prop := ∀ (A : Around) (E : Value → Shared → Prop) (Q : Bool → Shared → Prop), Q false s → wpAny (model P w) A (ofAClassStatement n v) Q E s
def HbvAt (P : Program) (w : World) (n : Nat) (s : Shared) (v : Value) : Prop := ∀ (A : Around) (E : Value → Shared → Prop) (Q : Bool → Shared → Prop), (∀ b, Q b s) → wpAny (model P w) A (hashByValue n v) Q E s
section
variable {P : Program} {w : World} {A : Around} {E : Value → Shared → Prop} {s : Shared}
theorem cls_pure {n : Nat} {v : Value} (e : ofAClassStatement n v = pure false) : ClsAt P w n s v := fun A E Q q => by
  rw [e]
  exact wpAny_pure q
theorem hbv_pure {n : Nat} {v : Value} {b : Bool} (e : hashByValue n v = pure b) : HbvAt P w n s v := fun A E Q q => by
  rw [e]
  exact wpAny_pure (q b)
theorem cls_tuple {n m : Nat} {a : Addr} {o : Obj} {vs : Array Value} (ho : s.heap.get? a = some o) (hc : o.cls = .type "tuple") (hd : o.data = .seq vs m) (all : ∀ v ∈ vs.toList, ClsAt P w n s v) : ClsAt P w (n + 1) s (.ref a) := fun A E Q q => by
  unfold ofAClassStatement
  refine wpAny_bind (wpAny_typeOf (show s.TypeIs (.ref a) "tuple" from ⟨o, ho, hc⟩) ?_)
  simp only [show (("tuple" : String) == "tuple") = true by decide, if_true, pure_bind, Bool.not_true, Bool.false_eq_true, if_false]
  refine wpAny_bind (wpAny_seqItems ho hd (wpAny_bind ?_))
  rw [← Array.forIn_toList]
  refine wpAny_forIn_list _ (fun left r s' => s' = s ∧ r.1 = none ∧ ∀ v ∈ left, ClsAt P w n s v) _ ?_ ?_ _ _ ⟨rfl, rfl, all⟩
  · rintro v left r s' ⟨rfl, e, rest⟩
    refine wpAny_bind (rest v (List.mem_cons_self ..) _ _ _ ?_)
    simp only [Bool.false_eq_true, if_false]
    exact wpAny_pure ⟨rfl, rfl, fun u hu => rest u (List.mem_cons_of_mem _ hu)⟩
  · rintro ⟨r, x⟩ s' ⟨rfl, e, _⟩
    simp only at e
    subst e
    exact wpAny_pure q
theorem hbv_tuple {n m : Nat} {a : Addr} {o : Obj} {vs : Array Value} (ho : s.heap.get? a = some o) (hc : o.cls = .type "tuple") (hd : o.data = .seq vs m) (all : ∀ v ∈ vs.toList, HbvAt P w n s v) : HbvAt P w (n + 1) s (.ref a) := fun A E Q q => by
  unfold hashByValue
  refine wpAny_bind (wpAny_specialOf (show s.TypeIs (.ref a) "tuple" from ⟨o, ho, hc⟩) F.slot_tuple_hash.lookup ?_)
  show wpAny _ _ (seqItems? (.ref a) >>= _) _ _ s
  refine wpAny_bind (wpAny_seqItems ho hd (wpAny_bind ?_))
  show wpAny _ _ (forIn vs _ _) _ _ s
  rw [← Array.forIn_toList]
  refine wpAny_forIn_list _ (fun left r s' => s' = s ∧ r.1 = none ∧ ∀ v ∈ left, HbvAt P w n s v) _ ?_ ?_ _ _ ⟨rfl, rfl, all⟩
  · rintro v left r s' ⟨rfl, e, rest⟩
    refine wpAny_bind (rest v (List.mem_cons_self ..) _ _ _ fun b => ?_)
    cases b with
    | true =>
      simp only [Bool.not_true, Bool.false_eq_true, if_false]
      exact wpAny_pure ⟨rfl, rfl, fun u hu => rest u (List.mem_cons_of_mem _ hu)⟩
    | false =>
      simp only [Bool.not_false, if_true]
      exact wpAny_pure (wpAny_pure (q false))
  · rintro ⟨r, x⟩ s' ⟨rfl, e, _⟩
    simp only at e
    subst e
    exact wpAny_pure (q true)
mutual
theorem cls_key : ∀ (k : NK) (v : Value) (n : Nat), NestedIs s.heap k v → k.depth ≤ n → ClsAt P w n s v
  | .none, _, n, x, _ => by
    cases x
    exact cls_pure (by cases n <;> rfl)
  | .num i, _, n, x, _ => by
    cases x <;> exact cls_pure (by cases n <;> rfl)
  | .text y, _, n, x, _ => by
    cases x
    exact cls_pure (by cases n <;> rfl)
  | .tup ks, _, n, x, hn => by
    cases x with
    | tup hg hc hd hk =>
      simp only [NestedKey.depth] at hn
      cases n with
      | zero => omega
      | succ n => exact cls_tuple hg hc hd (cls_keys ks _ n hk (by omega))
theorem cls_keys : ∀ (ks : List NK) (vs : List Value) (n : Nat), NestedAll s.heap ks vs → NestedKey.depthAll ks ≤ n → ∀ v ∈ vs, ClsAt P w n s v
  | [], _, n, x, _, v, hv => by
    cases x
    cases hv
  | k :: ks, _, n, x, hn, v, hv => by
    cases x with
    | cons x1 x2 =>
      simp only [NestedKey.depthAll] at hn
      rcases List.mem_cons.mp hv with e | hv
      · rw [e]
        exact cls_key k _ n x1 (by omega)
      · exact cls_keys ks _ n x2 (by omega) v hv
end
mutual
theorem hbv_key : ∀ (k : NK) (v : Value) (n : Nat), NestedIs s.heap k v → k.depth ≤ n → HbvAt P w n s v
  | .none, _, n, x, _ => by
    cases x
    exact hbv_pure (b := true) (by cases n <;> rfl)
  | .num i, _, n, x, _ => by
    cases x <;> exact hbv_pure (b := true) (by cases n <;> rfl)
  | .text y, _, n, x, _ => by
    cases x
    exact hbv_pure (b := false) (by cases n <;> rfl)
  | .tup ks, _, n, x, hn => by
    cases x with
    | tup hg hc hd hk =>
      simp only [NestedKey.depth] at hn
      cases n with
      | zero => omega
      | succ n => exact hbv_tuple hg hc hd (hbv_keys ks _ n hk (by omega))
theorem hbv_keys : ∀ (ks : List NK) (vs : List Value) (n : Nat), NestedAll s.heap ks vs → NestedKey.depthAll ks ≤ n → ∀ v ∈ vs, HbvAt P w n s v
  | [], _, n, x, _, v, hv => by
    cases x
    cases hv
  | k :: ks, _, n, x, hn, v, hv => by
    cases x with
    | cons x1 x2 =>
      simp only [NestedKey.depthAll] at hn
      rcases List.mem_cons.mp hv with e | hv
      · rw [e]
        exact hbv_key k _ n x1 (by omega)
      · exact hbv_keys ks _ n x2 (by omega) v hv
end
/-- looking such a key up shows nothing -/
theorem unseen {k : NK} {b : Addr} {Q : Bool → Shared → Prop} (hk : Is8 s.heap k b) {ys : List Value} (hy : ∀ y ∈ ys, ∃ k' c, y = Value.ref c ∧ Is8 s.heap k' c) (q : Q false s) : wpAny (model P w) A (searchCouldBeSeen (.ref b) ys) Q E s := by
  unfold searchCouldBeSeen
  refine wpAny_bind (wpAny_forIn_list _ (fun left r s' => s' = s ∧ r.1 = none ∧ ∀ y ∈ left, ∃ k' c, y = Value.ref c ∧ Is8 s.heap k' c) _ ?_ ?_ _ _ ⟨rfl, rfl, hy⟩)
  · rintro v left r s' ⟨rfl, e, all⟩
    obtain ⟨k', c, rfl, hc⟩ := all v (List.mem_cons_self ..)
    have rest : ∀ y ∈ left, ∃ k' c, y = Value.ref c ∧ Is8 s'.heap k' c := fun y hy => all y (List.mem_cons_of_mem _ hy)
    dsimp only
    by_cases hv : (b == c || (carriedByValue (.ref b) && carriedByValue (.ref c))) = true
    · refine wp_if_pos hv ?_
      exact wpAny_pure ⟨rfl, rfl, rest⟩
    · refine wp_if_neg hv ?_
      refine wpAny_bind ((nestedKind P w).quiet (show (nestedKind P w).is s'.heap k b from hk) ?_)
      simp only [Bool.not_true, Bool.false_eq_true, if_false]
      refine wpAny_bind ((nestedKind P w).quiet (show (nestedKind P w).is s'.heap k' c from hc) ?_)
      simp only [Bool.not_true, Bool.false_eq_true, if_false]
      refine wpAny_bind (cls_key k _ 8 hk.1 hk.2 _ _ _ ?_)
      simp only [Bool.false_eq_true, if_false]
      refine wpAny_bind (cls_key k' _ 8 hc.1 hc.2 _ _ _ ?_)
      simp only [Bool.false_eq_true, if_false]
      exact wpAny_pure ⟨rfl, rfl, rest⟩
  · rintro ⟨r, x⟩ s' ⟨rfl, e, _⟩
    simp only at e
    subst e
    exact wpAny_pure q
end
end Sd
namespace Sd
open PySem PySem.Spec PyProof.Rows L2
/-! ### the table -/
abbrev rowN (w : World) (p : Addr × NK) : Int × Value := (p.2.hash w, Value.ref p.1)
structure Ts (w : World) (h : PySem.Heap) (a : Addr) (L : List (Addr × NK)) (es : Array (Int × Value)) (ep : Nat) (t : SetTable) : Prop where
  obj : ∃ o, h.get? a = some o ∧ o.ExactSet ∧ o.data = .set es ep t
  row : es.toList = L.map (rowN w)
  tab : TabOk t (L.map fun p => p.2.hash w)
  one : (L.map (·.2)).Nodup
  mem : ∀ p ∈ L, Is8 h p.2 p.1
  led : w.params.followText "set-order" = true ∨ t.led = true
  free : L.length * 5 < t.mask * 3
  few : L.length < 64
/-- where the search for the hash h begins -/
abbrev beg (t : SetTable) (h : Int) : SetTable.Probe := runAt t.mask (SetTable.bits h % (t.mask + 1)) (SetTable.bits h)
section
variable {P : Program} {w : World} {A : Around} {E : Value → Shared → Prop} {s : Shared} {a : Addr} {L : List (Addr × NK)} {es : Array (Int × Value)} {ep : Nat} {t : SetTable}
theorem Ts.num (R : Ts w s.heap a L es ep t) : es.size = L.length := by
  have z := congrArg List.length R.row
  rwa [Array.length_toList, List.length_map] at z
theorem Ts.fit (R : Ts w s.heap a L es ep t) : t.fits es.size = true := by
  have z1 := R.tab.sz
  have z2 := R.num
  have z3 := R.free
  rw [List.length_map] at z1
  unfold SetTable.fits SetTable.fill
  rw [R.tab.dm, Bool.and_eq_true, beq_iff_eq, decide_eq_true_eq]
  show t.place.size = es.size ∧ t.place.size + 0 ≤ t.mask
  omega
theorem Ts.at (R : Ts w s.heap a L es ep t) {i : Nat} {p : Addr × NK} (e : L[i]? = some p) : es[i]? = some (rowN w p) := by
  rw [← Array.getElem?_toList, R.row, List.getElem?_map, e]
  rfl
theorem Ts.nogw (R : Ts w s.heap a L es ep t) : ¬ t.gaveWay = true := by
  unfold SetTable.gaveWay
  rw [mask_odd R.tab.mok]
  exact Bool.false_ne_true
theorem beg_quiet (m : Nat) : ∀ (n : Nat) (p : SetTable.Probe), p.dummy = none → (nth m p n).dummy = none
  | 0, _, h => h
  | n + 1, p, h => beg_quiet m n (adv m p) (by
    unfold adv
    split <;> exact h)
/-- from step c of the way on: found, or the first empty slot -/
theorem look_from (R : Ts w s.heap a L es ep t) {x : Addr} {k : NK} (hx : Is8 s.heap k x) (hu : A.units + 8 < cLine) {K : Nat} (K1 : K < 10 * SetTable.turns t.mask) (K2 : way t.mask (k.hash w) K ∉ t.place.toList) (K3 : ∀ c, c < K → way t.mask (k.hash w) c ∈ t.place.toList)
    {Q : SetFound → Shared → Prop} (yes : k ∈ L.map (·.2) → Q (.there none) s) (no : k ∉ L.map (·.2) → Q (.free (way t.mask (k.hash w) K) false) s) :
    ∀ (fuel c : Nat) (stand : Option SetTable.Probe), stand.getD (t.probeStart (k.hash w)) = nth t.mask (beg t (k.hash w)) c → c ≤ K → K - c < fuel →
      (∀ (i : Nat) p, L[i]? = some p → p.2 = k → ∃ d, c ≤ d ∧ d < K ∧ t.place.toList[i]? = some (way t.mask (k.hash w) d)) → wpAny (model P w) A (setSearchFrom a (.ref x) (k.hash w) true fuel stand) Q E s := by
  intro fuel
  induction fuel with
  | zero => exact fun c _ _ _ lt _ => absurd lt (Nat.not_lt_zero _)
  | succ fuel ih =>
    intro c stand est cK lt here
    obtain ⟨o, ho, hex, hd⟩ := R.obj
    have sum : ∀ q, nth t.mask (nth t.mask (beg t (k.hash w)) c) q = nth t.mask (beg t (k.hash w)) (c + q) := fun q => (nth_add t.mask c _ q).symm
    have wy : ∀ q, (nth t.mask (nth t.mask (beg t (k.hash w)) c) q).j = way t.mask (k.hash w) (c + q) := fun q => congrArg SetTable.Probe.j (sum q)
    have hsh : ∀ (i : Nat) p, L[i]? = some p → (es[i]?.map (·.1)).getD 0 = p.2.hash w := fun i p hp => by
      rw [R.at hp]
      rfl
    have met := go_spec t R.tab.ris R.tab.dm (fun i => (es[i]?.map (·.1)).getD 0) (k.hash w) (10 * SetTable.turns t.mask) (K - c) _ (beg_quiet t.mask c (beg t (k.hash w)) rfl) (by omega) (fun q hq => by rw [wy]; exact K3 _ (by omega)) (by rw [wy, show c + (K - c) = K by omega]; exact K2)
    rw [setSearchFrom_succ]
    refine wpAny_bind (wpAny_setState_of ho hd R.fit ?_)
    dsimp only
    refine wp_if_neg R.nogw ?_
    try refine wpAny_bind (wpAny_pure ?_)
    rcases met with ⟨q, i, hq, hi, hh, hno, pr⟩ | ⟨hno, pr⟩
    · have pr2 : t.probe (fun i => (es[i]?.map (·.1)).getD 0) (k.hash w) (stand.getD (t.probeStart (k.hash w))) = some (.candidate (way t.mask (k.hash w) (c + q)) i (nth t.mask (beg t (k.hash w)) (c + (q + 1)))) := by
        rw [est, ← wy, ← sum]
        exact pr
      rw [pr2]
      dsimp only
      rw [wy] at hi
      have iL : i < L.length := by
        have z1 := (List.getElem?_eq_some_iff.mp hi).1
        have z2 := R.tab.sz
        rw [List.length_map] at z2
        rw [Array.length_toList] at z1
        omega
      obtain ⟨p, hp⟩ : ∃ p, L[i]? = some p := ⟨_, List.getElem?_eq_getElem iL⟩
      have pm : p ∈ L := List.mem_of_getElem? hp
      have go : wpAny (model P w) A (searchRest a (.ref x) (k.hash w) true fuel es t (way t.mask (k.hash w) (c + q)) i (nth t.mask (beg t (k.hash w)) (c + (q + 1)))) Q E s := by
        unfold searchRest
        rw [R.at hp]
        dsimp only
        refine wpAny_bind (wpAny_holding ((nestedKind P w).eqBool (show A.units + 8 < cLine from hu) (show (nestedKind P w).is s.heap p.2 p.1 from R.mem p pm) (show (nestedKind P w).is s.heap k x from hx) ?_))
        refine wpAny_bind (wpAny_setState_of ho hd R.fit ?_)
        dsimp only
        by_cases e : p.2 = k
        · refine wp_if_pos (by simp [e]) ?_
          exact wpAny_pure (yes (List.mem_map.mpr ⟨p, pm, e⟩))
        · refine wp_if_neg (by simp [e]) ?_
          try refine wpAny_bind (wpAny_pure ?_)
          have live : t.slot (way t.mask (k.hash w) (c + q)) = .live i := slot_live R.tab.ris hi
          rw [sameMem]
          dsimp only
          simp only [if_true, live, R.at hp]
          refine wpAny_bind (wpAny_isSame_ref_self (wpAny_bind (wpAny_pure ?_)))
          simp only [if_true]
          refine wp_if_neg (by simp [e]) ?_
          refine ih (c + (q + 1)) _ rfl (by omega) (by omega) fun i' p' hp' e' => ?_
          obtain ⟨d, d1, d2, d3⟩ := here i' p' hp' e'
          refine ⟨d, Nat.not_lt.mp fun lt' => ?_, d2, d3⟩
          rcases Nat.lt_or_ge d (c + q) with z | z
          · exact hno (d - c) i' (by omega) (by rw [wy, show c + (d - c) = d by omega]; exact d3) ((hsh i' p' hp').trans (by rw [e']))
          · have ed : d = c + q := by omega
            rw [ed] at d3
            have live2 := slot_live R.tab.ris d3
            rw [live] at live2
            injection live2 with ei
            rw [← ei, hp] at hp'
            exact e (by rw [Option.some.inj hp']; exact e')
      by_cases hl : t.led = true
      · refine wp_if_neg (by simp [hl]) ?_
        try refine wpAny_bind (wpAny_pure ?_)
        exact go
      · refine wp_if_pos (by simp [hl]) ?_
        refine wpAny_bind (unseen hx (fun y hy => ?_) ?_)
        · obtain ⟨e, he, rfl⟩ := List.mem_map.mp hy
          have e1 : e ∈ es ∧ e.1 = k.hash w := by simpa using he
          have e2 : e ∈ es.toList := by simpa using e1.1
          rw [R.row] at e2
          obtain ⟨p', hp', rfl⟩ := List.mem_map.mp e2
          exact ⟨p'.2, p'.1, rfl, R.mem p' hp'⟩
        · refine wp_if_neg Bool.false_ne_true ?_
          try refine wpAny_bind (wpAny_pure ?_)
          exact go
    · have pr2 : t.probe (fun i => (es[i]?.map (·.1)).getD 0) (k.hash w) (stand.getD (t.probeStart (k.hash w))) = some (.empty (way t.mask (k.hash w) K) none) := by
        have z := wy (K - c)
        rw [show c + (K - c) = K by omega] at z
        rw [est, ← z]
        exact pr
      rw [pr2]
      dsimp only
      refine wpAny_pure (no fun hm => ?_)
      obtain ⟨p, pm, e⟩ := List.mem_map.mp hm
      obtain ⟨i, hp⟩ := List.mem_iff_getElem?.mp pm
      obtain ⟨d, d1, d2, d3⟩ := here i p hp e
      exact hno (d - c) i (by omega) (by rw [wy, show c + (d - c) = d by omega]; exact d3) ((hsh i p hp).trans (by rw [e]))
theorem look (R : Ts w s.heap a L es ep t) {x : Addr} {k : NK} (hx : Is8 s.heap k x) (hu : A.units + 8 < cLine) {Q : SetFound → Shared → Prop} (yes : k ∈ L.map (·.2) → Q (.there none) s)
    (no : ∀ K, k ∉ L.map (·.2) → way t.mask (k.hash w) K ∉ t.place.toList → (∀ c, c < K → way t.mask (k.hash w) c ∈ t.place.toList) → Q (.free (way t.mask (k.hash w) K) false) s) : wpAny (model P w) A (setSearch a (.ref x) (k.hash w) true) Q E s := by
  have z := R.free
  obtain ⟨K, K1, K2, K3⟩ := R.tab.first (by rw [List.length_map]; omega) (k.hash w)
  have small : 10 * SetTable.turns t.mask ≤ 1500 := by
    unfold SetTable.turns
    rcases R.tab.mok with e | e | e <;> omega
  unfold setSearch
  refine look_from R hx hu K1 K2 K3 yes (fun n => no K n K2 K3) 100000 0 none rfl (Nat.zero_le _) (by omega) fun i p hp e => ?_
  have hi : (L.map fun p => p.2.hash w)[i]? = some (k.hash w) := by
    rw [List.getElem?_map, hp, ← e]
    rfl
  have il : i < t.place.toList.length := by
    have z1 := (List.getElem?_eq_some_iff.mp hp).1
    have z2 := R.tab.sz
    rw [List.length_map] at z2
    rw [Array.length_toList]
    omega
  obtain ⟨j, hj⟩ : ∃ j, t.place.toList[i]? = some j := ⟨_, List.getElem?_eq_getElem il⟩
  obtain ⟨d, d1, d2⟩ := R.tab.before K2 hi hj
  exact ⟨d, Nat.zero_le _, d1, by rw [hj, d2]⟩
end
end Sd
namespace Sd
open PySem PySem.Spec PyProof.Rows L2
/-! ### the table laid anew; one key more -/
theorem range_get {α : Type} (L : List α) : ∀ n, n ≤ L.length → (List.range n).filterMap (fun i => L[i]?) = L.take n
  | 0, _ => rfl
  | n + 1, hn => by
    obtain ⟨x, e⟩ : ∃ x, L[n]? = some x := ⟨_, List.getElem?_eq_getElem hn⟩
    rw [List.range_succ, List.filterMap_append, range_get L n (Nat.le_of_succ_le hn), List.take_add_one, e]
    congr 1
    rw [List.filterMap_cons_some e]
    rfl
section
variable {P : Program} {w : World} {A : Around} {E : Value → Shared → Prop} {s : Shared} {a : Addr} {L : List (Addr × NK)} {es : Array (Int × Value)} {ep : Nat} {t : SetTable}
theorem ordered {order : Array Nat} (row : es.toList = L.map (rowN w)) (pm : order.toList.Perm (List.range L.length)) :
    ∃ M : List (Addr × NK), (order.filterMap (es[·]?)).toList = M.map (rowN w) ∧ M.Perm L ∧ (M.map fun p => p.2.hash w) = order.toList.map fun i => (es.map (·.1)).getD i 0 := by
  have ent : ∀ i : Nat, es[i]? = (L[i]?).map (rowN w) := fun i => by rw [← Array.getElem?_toList, row, List.getElem?_map]
  refine ⟨order.toList.filterMap (fun i => L[i]?), ?_, ?_, ?_⟩
  · rw [List.map_filterMap]
    have z : (order.filterMap (es[·]?)).toList = order.toList.filterMap (fun i => es[i]?) := by simp
    rw [z]
    congr 1
    funext i
    exact ent i
  · have z := pm.filterMap (fun i => L[i]?)
    rwa [range_get L L.length (Nat.le_refl _), List.take_length] at z
  · have all : ∀ i ∈ order.toList, i < L.length := fun i hi => List.mem_range.mp (pm.mem_iff.mp hi)
    revert all
    generalize order.toList = l
    intro all
    induction l with
    | nil => rfl
    | cons i l ih =>
      obtain ⟨p, hp⟩ : ∃ p, L[i]? = some p := ⟨_, List.getElem?_eq_getElem (all i (List.mem_cons_self ..))⟩
      have e1 : (es.map (·.1)).getD i 0 = p.2.hash w := by
        have z : (es.map (·.1))[i]? = some (p.2.hash w) := by
          rw [Array.getElem?_map, ent i, hp]
          rfl
        simp [Array.getD_eq_getD_getElem?, z]
      rw [List.filterMap_cons_some hp, List.map_cons, List.map_cons, ih fun j hj => all j (List.mem_cons_of_mem _ hj), e1]
theorem is8_but {h h' : PySem.Heap} {k : NK} {b : Addr} {o : Obj} (x : Is8 h k b) (ho : h.get? a = some o) (hd : o.data = .set es ep t) (sb : Heap.SameBut a h h') : Is8 h' k b :=
  ⟨NestedIs.at (fun c oc vs n hc hv => by
    refine (sb.2 c fun e => ?_).trans hc
    rw [e, ho] at hc
    cases hc
    rw [hd] at hv
    cases hv) k _ x.1, x.2⟩
theorem is8_keep {h h' : PySem.Heap} {k : NK} {b : Addr} (x : Is8 h k b) (kp : ∀ c o, h.get? c = some o → h'.get? c = some o) : Is8 h' k b := ⟨NestedIs.at (fun c o _ _ hc _ => kp c o hc) k _ x.1, x.2⟩
theorem relay {o : Obj} (ho : s.heap.get? a = some o) (hex : o.ExactSet) (hd : o.data = .set es ep t) (row : es.toList = L.map (rowN w)) (hsz : t.place.size = es.size) (hdm : t.dummies = #[]) (hfl : es.size ≤ t.mask) (one : (L.map (·.2)).Nodup) (mem : ∀ p ∈ L, Is8 s.heap p.2 p.1)
    (led : w.params.followText "set-order" = true ∨ t.led = true) (few : L.length < 64) {want M : Nat} (hw : SetTable.sizeAbove want - 1 = M) (hM : MaskOk M) (h128 : SetTable.sizeAbove want ≤ 128) (hn : L.length * 5 < M * 3) {Q : Unit → Shared → Prop}
    (q : ∀ h' L' es' ep' t', Heap.SameBut a s.heap h' → Ts w h' a L' es' ep' t' → L'.Perm L → Q () { s with heap := h' }) : wpAny (model P w) A (setRelay a want) Q E s := by
  have num : es.size = L.length := by
    have z := congrArg List.length row
    rwa [Array.length_toList, List.length_map] at z
  have fit : t.fits es.size = true := by
    unfold SetTable.fits SetTable.fill
    rw [hdm, Bool.and_eq_true, beq_iff_eq, decide_eq_true_eq]
    exact ⟨hsz, by show t.place.size + 0 ≤ t.mask; omega⟩
  obtain ⟨t', order, er, pm, T, em, el, _, _⟩ := relaid_ok t (hs := es.map (·.1)) (wanted := want) hw hM (by rw [Array.size_map, num]; omega)
  rw [Array.size_map, num] at pm
  obtain ⟨M', r1, r2, r3⟩ := ordered row pm
  have num2 : (order.filterMap (es[·]?)).size = es.size := by
    have z := congrArg List.length r1
    rw [Array.length_toList, List.length_map, r2.length_eq] at z
    rw [z, num]
  rw [← r3] at T
  rw [setRelay_eq]
  refine wpAny_bind (wpAny_setState_of ho hd fit ?_)
  dsimp only
  refine wp_if_neg (by rw [sizeLine_eq]; omega) ?_
  try refine wpAny_bind (wpAny_pure ?_)
  rw [er]
  dsimp only
  refine wpAny_bind (wp_if_neg (by rw [num2]; simp) ?_)
  try refine wpAny_bind (wpAny_pure ?_)
  refine wpAny_pure ?_
  dsimp only
  refine wpAny_storeSet_of ho hd ?_ (by rw [num2, num, sizeLine_eq]; omega)
  have sb : Heap.SameBut a s.heap (s.heap.update a (Obj.putSet (order.filterMap (es[·]?)) t')) := Heap.SameBut.update ..
  refine q _ M' _ (ep + 1) t' sb ⟨⟨_, store_at ho hd, ⟨hex.1, hex.2.1, hex.2.2⟩, rfl⟩, r1, T, (r2.map (·.2)).nodup_iff.mpr one, fun p hp => is8_but (mem p (r2.mem_iff.mp hp)) ho hd sb, by rw [el]; exact led, by rw [r2.length_eq, em]; exact hn, by rw [r2.length_eq]; exact few⟩ r2
theorem add1 (R : Ts w s.heap a L es ep t) {x : Addr} {k : NK} (hx : Is8 s.heap k x) (hu : A.units + 8 < cLine) (few : L.length + 1 < 64) {Q : Bool → Shared → Prop}
    (q : ∀ b h' L' es' ep' t', Heap.SameBut a s.heap h' → Ts w h' a L' es' ep' t' → (k ∈ L.map (·.2) → L' = L) → (k ∉ L.map (·.2) → L'.Perm ((x, k) :: L)) → Q b { s with heap := h' }) : wpAny (model P w) A (setAddHashed a (.ref x) (k.hash w)) Q E s := by
  obtain ⟨o, ho, hex, hd⟩ := R.obj
  have num := R.num
  have free := R.free
  unfold setAddHashed
  rw [show (100000 : Nat) = 99999 + 1 from rfl, setAddHashedIn_succ]
  refine wpAny_holding (wpAny_bind (wpAny_setState_of ho hd R.fit ?_))
  dsimp only
  refine wp_if_neg (by simp [byScan, Value.scannable]) ?_
  try refine wpAny_bind (wpAny_pure ?_)
  refine wpAny_bind (look R hx hu (fun hm => ?_) fun K hm K2 K3 => ?_)
  · dsimp only
    exact wpAny_pure (q false s.heap L es ep t (Heap.SameBut.refl a s.heap) R (fun _ => rfl) fun n => absurd hm n)
  dsimp only
  refine wpAny_bind (wpAny_setState_of ho hd R.fit ?_)
  dsimp only
  obtain ⟨p1, p2, p3, p4, p5, p6, p7, p8, p9⟩ := R.tab.put K2 K3
  generalize epp : t.put (way t.mask (k.hash w) K) = pp at p1 p3 p4 p5 p6 p7 p8 p9 ⊢
  obtain ⟨t1, j⟩ := pp
  dsimp only at p1 p3 p4 p5 p6 p7 p8 p9 ⊢
  subst p1
  -- what follows does not depend on `plain`
  have rest : ∀ t2 : SetTable, TabOk t2 ((L.map fun p => p.2.hash w).take (SetTable.below t.place (way t.mask (k.hash w) K)) ++ k.hash w :: (L.map fun p => p.2.hash w).drop (SetTable.below t.place (way t.mask (k.hash w) K))) → t2.mask = t.mask → t2.led = t.led → t2.fill = (L.map fun p => p.2.hash w).length + 1 →
      wpAny (model P w) A (do
        storeSet a (SetTable.insertAt es (SetTable.below t.place (way t.mask (k.hash w) K)) (k.hash w, Value.ref x)) t2
        if !false && t2.tooFull then setRelay a (SetTable.grown (es.size + 1))
        return true : Sem Bool) Q E s := by
    intro t2 T2 m2 l2 f2
    have ins : (SetTable.insertAt es (SetTable.below t.place (way t.mask (k.hash w) K)) (k.hash w, Value.ref x)).toList = (L.take (SetTable.below t.place (way t.mask (k.hash w) K)) ++ (x, k) :: L.drop (SetTable.below t.place (way t.mask (k.hash w) K))).map (rowN w) := by
      rw [SetTable.toList_insertAt, R.row, List.map_append, List.map_cons, List.map_take, List.map_drop]
    have hh : (L.take (SetTable.below t.place (way t.mask (k.hash w) K)) ++ (x, k) :: L.drop (SetTable.below t.place (way t.mask (k.hash w) K))).map (fun p => p.2.hash w) = (L.map fun p => p.2.hash w).take (SetTable.below t.place (way t.mask (k.hash w) K)) ++ k.hash w :: (L.map fun p => p.2.hash w).drop (SetTable.below t.place (way t.mask (k.hash w) K)) := by
      rw [List.map_append, List.map_cons, List.map_take, List.map_drop]
    rw [← hh] at T2
    have pm := put_perm L (SetTable.below t.place (way t.mask (k.hash w) K)) (x, k)
    generalize L.take (SetTable.below t.place (way t.mask (k.hash w) K)) ++ (x, k) :: L.drop (SetTable.below t.place (way t.mask (k.hash w) K)) = L1 at ins T2 pm
    have len1 : L1.length = L.length + 1 := pm.length_eq
    have num1 : (SetTable.insertAt es (SetTable.below t.place (way t.mask (k.hash w) K)) (k.hash w, Value.ref x)).size = L.length + 1 := by
      have z := congrArg List.length ins
      rwa [Array.length_toList, List.length_map, len1] at z
    generalize SetTable.insertAt es (SetTable.below t.place (way t.mask (k.hash w) K)) (k.hash w, Value.ref x) = es1 at ins num1 ⊢
    have one1 : (L1.map (·.2)).Nodup := (pm.map (·.2)).nodup_iff.mpr (by
      rw [List.map_cons]
      exact List.nodup_cons.mpr ⟨hm, R.one⟩)
    refine wpAny_bind (wpAny_storeSet_of ho hd ?_ (by rw [num1, sizeLine_eq]; omega))
    have sb : Heap.SameBut a s.heap (s.heap.update a (Obj.putSet es1 t2)) := Heap.SameBut.update ..
    have ho1 := store_at (es' := es1) (t' := t2) ho hd
    generalize s.heap.update a (Obj.putSet es1 t2) = h1 at sb ho1 ⊢
    have mem1 : ∀ p ∈ L1, Is8 h1 p.2 p.1 := fun p hp => by
      rcases List.mem_cons.mp (pm.mem_iff.mp hp) with e | hp
      · rw [e]
        exact is8_but hx ho hd sb
      · exact is8_but (R.mem p hp) ho hd sb
    have led1 : w.params.followText "set-order" = true ∨ t2.led = true := by
      rw [l2]
      exact R.led
    have full : t2.tooFull = true ↔ (L.length + 1) * 5 ≥ t2.mask * 3 := by
      unfold SetTable.tooFull
      rw [decide_eq_true_eq, f2, List.length_map]
    by_cases hf : t2.tooFull = true
    · have z := full.mp hf
      have two : (t.mask = 7 ∧ L.length = 4) ∨ (t.mask = 31 ∧ L.length = 18) := by
        rcases R.tab.mok with e | e | e <;> rw [m2, e] at z <;> rw [e] at free <;> omega
      have sz1 : t2.place.size = es1.size := by
        have z := T2.sz
        rw [List.length_map, len1] at z
        rw [z, num1]
      rw [num]
      have go : ∀ M, SetTable.sizeAbove (SetTable.grown (L.length + 1)) - 1 = M → MaskOk M → SetTable.sizeAbove (SetTable.grown (L.length + 1)) ≤ 128 → (L.length + 1) * 5 < M * 3 →
          wpAny (model P w) A (setRelay a (SetTable.grown (L.length + 1))) (fun _ s' => wpAny (model P w) A (pure true) Q E s') E { s with heap := h1 } := fun M g1 g2 g3 g4 =>
        relay (s := { s with heap := h1 }) ho1 ⟨hex.1, hex.2.1, hex.2.2⟩ rfl ins sz1 T2.dm (by rw [num1, m2]; rcases two with ⟨e, e2⟩ | ⟨e, e2⟩ <;> omega) one1 mem1 led1 (by rw [len1]; exact few) g1 g2 g3 (by rw [len1]; exact g4) fun h2 L2 es2 ep2 t3 sb2 R2 pm2 =>
          wpAny_pure (q true h2 L2 es2 ep2 t3 (sb.trans sb2) R2 (fun y => absurd y hm) fun _ => pm2.trans pm)
      have goal : wpAny (model P w) A (setRelay a (SetTable.grown (L.length + 1))) (fun _ s' => wpAny (model P w) A (pure true) Q E s') E { s with heap := h1 } := by
        rcases two with ⟨_, e⟩ | ⟨_, e⟩
        · exact go 31 (by rw [e, size_20]) (.inr (.inl rfl)) (by rw [e, size_20]; decide) (by omega)
        · exact go 127 (by rw [e, size_76]) (.inr (.inr rfl)) (by rw [e, size_76]; decide) (by omega)
      first
        | exact wp_if_pos (by simp [hf]) (wpAny_bind goal)
        | exact wpAny_bind (wp_if_pos (by simp [hf]) goal)
    · have fin := q true h1 L1 es1 (ep + 1) t2 sb ⟨⟨_, ho1, ⟨hex.1, hex.2.1, hex.2.2⟩, rfl⟩, ins, T2, one1, mem1, led1, by rw [len1]; have := mt full.mpr hf; omega, by rw [len1]; exact few⟩ (fun y => absurd y hm) fun _ => pm
      first
        | exact wp_if_neg (by simp [hf]) (wpAny_pure fin)
        | exact wpAny_bind (wp_if_neg (by simp [hf]) (wpAny_pure (wpAny_pure fin)))
  have hb : HbvAt P w 8 s (.ref x) := hbv_key k _ 8 hx.1 hx.2
  have off : TabOk { t1 with plain := false } ((L.map fun p => p.2.hash w).take (SetTable.below t.place (way t.mask (k.hash w) K)) ++ k.hash w :: (L.map fun p => p.2.hash w).drop (SetTable.below t.place (way t.mask (k.hash w) K))) := ⟨p3.ris, p3.dm, p3.sz, p3.mok, p3.bd, p3.reach⟩
  have both : ∀ b : Bool, wpAny (model P w) A (do
        storeSet a (SetTable.insertAt es (SetTable.below t.place (way t.mask (k.hash w) K)) (k.hash w, Value.ref x)) (if b then t1 else { t1 with plain := false })
        if !false && (if b then t1 else { t1 with plain := false }).tooFull then setRelay a (SetTable.grown (es.size + 1))
        return true : Sem Bool) Q E s := fun b => by
    cases b with
    | true => exact rest t1 p3 p4 p5 p9
    | false => exact rest { t1 with plain := false } off p4 p5 p9
  by_cases pl : t1.plain = true
  · first
      | exact wpAny_bind (wp_if_pos pl (hb _ _ _ both))
      | exact wp_if_pos pl (wpAny_bind (hb _ _ _ both))
  · first
      | exact wpAny_bind (wp_if_neg pl (wpAny_pure (both true)))
      | exact wp_if_neg pl (wpAny_bind (wpAny_pure (both true)))
      | exact wp_if_neg pl (both true)
end
end Sd
namespace Sd
open PySem PySem.Spec PyProof.Rows L2
/-! ### set(xs): the loop -/
/-- what the first i keys leave -/
structure Some1 (ks : List (Addr × NK)) (i : Nat) (L : List (Addr × NK)) : Prop where
  sub : ∀ p ∈ L, p ∈ ks.take i
  all : ∀ p ∈ ks.take i, p.2 ∈ L.map (·.2)
  len : L.length ≤ i
theorem some_zero (ks : List (Addr × NK)) : Some1 ks 0 [] := ⟨fun p hp => (by cases hp), fun p hp => (by simp at hp), Nat.le_refl _⟩
theorem some_next {ks L L' : List (Addr × NK)} {i : Nat} {x : Addr × NK} (g : Some1 ks i L) (e : ks[i]? = some x) (same : x.2 ∈ L.map (·.2) → L' = L) (more : x.2 ∉ L.map (·.2) → L'.Perm (x :: L)) : Some1 ks (i + 1) L' := by
  have et : ks.take (i + 1) = ks.take i ++ [x] := by
    rw [List.take_add_one, e]
    rfl
  by_cases c : x.2 ∈ L.map (·.2)
  · rw [same c]
    refine ⟨fun p hp => by rw [et]; exact List.mem_append_left _ (g.sub p hp), fun p hp => ?_, Nat.le_succ_of_le g.len⟩
    rw [et] at hp
    rcases List.mem_append.mp hp with z | z
    · exact g.all p z
    · rw [List.mem_singleton.mp z]
      exact c
  · have pm := more c
    refine ⟨fun p hp => ?_, fun p hp => ?_, by rw [pm.length_eq]; exact Nat.succ_le_succ g.len⟩
    · rw [et]
      rcases List.mem_cons.mp (pm.mem_iff.mp hp) with z | z
      · rw [z]
        exact List.mem_append_right _ (List.mem_singleton.mpr rfl)
      · exact List.mem_append_left _ (g.sub p z)
    · rw [(pm.map (·.2)).mem_iff, List.map_cons]
      rw [et] at hp
      rcases List.mem_append.mp hp with z | z
      · exact List.mem_cons_of_mem _ (g.all p z)
      · rw [List.mem_singleton.mp z]
        exact List.mem_cons_self ..
section
variable {P : Program} {w : World} {A : Around} {E : Value → Shared → Prop} {s : Shared}
theorem Ts.keep {h h' : PySem.Heap} {a : Addr} {L : List (Addr × NK)} {es : Array (Int × Value)} {ep : Nat} {t : SetTable} (R : Ts w h a L es ep t) (ka : ∀ o, h.get? a = some o → h'.get? a = some o) (km : ∀ p ∈ L, Is8 h' p.2 p.1) : Ts w h' a L es ep t := by
  obtain ⟨o, ho, r⟩ := R.obj
  exact ⟨⟨o, ka o ho, r⟩, R.row, R.tab, R.one, km, R.led, R.free, R.few⟩
theorem ts_new {h : PySem.Heap} {a : Addr} (ho : h.get? a = some (Sx.emptyObj w)) : Ts w h a [] #[] 0 (.fresh 0 0 (!w.params.followText "set-order")) where
  obj := ⟨_, ho, ⟨rfl, rfl, rfl⟩, rfl⟩
  row := rfl
  tab := ⟨List.Pairwise.nil, rfl, rfl, .inl rfl, (fun x hx => by cases hx), fun i h j hi => by simp at hi⟩
  one := List.nodup_nil
  mem := fun p hp => nomatch hp
  led := by
    show _ ∨ (!w.params.followText "set-order") = true
    cases w.params.followText "set-order"
    · exact .inr rfl
    · exact .inl rfl
  free := by
    show 0 * 5 < 7 * 3
    decide
  few := by
    show 0 < 64
    decide
theorem fill {I : Addr} {fp wr : List Addr} {G : Array GenState → Array GenState → Prop} {n : Nat} {Pv : Nat → Value → Prop} {St : Nat → Shared → Prop} {R : Result → Shared → Prop} (W : WalksS P w A.in1 I fp wr G n Pv St) (S : Addr) (nS : S ∉ fp) (ks : List (Addr × NK)) (hn : n = ks.length) (few : ks.length < 64)
    (val : ∀ i v, Pv i v → ∃ p, ks[i]? = some p ∧ v = .ref p.1) (h0 : PySem.Heap) (hk : ∀ p ∈ ks, Is8 h0 p.2 p.1) (hS : h0.get? S = none) (hw : ∀ b ∈ wr, h0.get? b = none) (hu : A.in1.units + 8 < cLine) :
    ∀ (r i : Nat) (s : Shared), n - i = r → i ≤ n → St i s → (∀ b o, h0.get? b = some o → s.heap.get? b = some o) → (∃ L es ep t, Ts w s.heap S L es ep t ∧ Some1 ks i L) →
      (∀ s' L es ep t, Moved (S :: wr) G s s' → Ts w s'.heap S L es ep t → Some1 ks n L → (∀ b o, h0.get? b = some o → s'.heap.get? b = some o) → R (.ok (.ret .none)) s') →
      codeAny (model P w) A (.builtin "set.update.loop" ⟨[.ref S, .ref I], []⟩) R s := by
  have nW : S ∉ wr := fun z => nS (W.sub _ z)
  have up : ∀ b ∈ wr, b ∈ S :: wr := fun b hb => List.mem_cons_of_mem _ hb
  have old : ∀ {s s' : Shared}, Moved wr G s s' → (∀ b o, h0.get? b = some o → s.heap.get? b = some o) → ∀ b o, h0.get? b = some o → s'.heap.get? b = some o := fun mv kp b o e => mv.heap b o (fun hb => by rw [hw b hb] at e; cases e) (kp b o e)
  intro r
  induction r with
  | zero =>
    intro i s er hi hst kp ⟨L, es, ep, t, hT, g⟩ fin
    have ei : i = n := by omega
    subst ei
    refine codeAny_builtin F.entry_set_update_loop ?_
    rw [Around.under_plainId F.plain_set_update_loop _]
    show wpAny _ A.in1 (pyNext (.ref I) >>= _) _ _ s
    refine wpAny_bind (W.done s _ _ hst fun s' mv => ?_)
    have kp' := old mv kp
    show wpAny _ A.in1 (ret Value.none) _ _ s'
    exact wpAny_pure (fin s' L es ep t (mv.mono up) (hT.keep (fun o e => mv.heap S o nW e) fun p hp => is8_keep (hk p (List.mem_of_mem_take (g.sub p hp))) kp') g kp')
  | succ r ih =>
    intro i s er hi hst kp ⟨L, es, ep, t, hT, g⟩ fin
    have lt : i < n := by omega
    refine codeAny_builtin F.entry_set_update_loop ?_
    rw [Around.under_plainId F.plain_set_update_loop _]
    show wpAny _ A.in1 (pyNext (.ref I) >>= _) _ _ s
    refine wpAny_bind (W.item i s _ _ lt hst fun v s' hv hst' mv => ?_)
    obtain ⟨p, hp, rfl⟩ := val i v hv
    have kp' := old mv kp
    have hT' : Ts w s'.heap S L es ep t := hT.keep (fun o e => mv.heap S o nW e) fun p hp => is8_keep (hk p (List.mem_of_mem_take (g.sub p hp))) kp'
    have hx : Is8 s'.heap p.2 p.1 := is8_keep (hk p (List.mem_of_getElem? hp)) kp'
    show wpAny _ A.in1 (holding [Value.ref p.1] (setAdd S (.ref p.1)) >>= _) _ _ s'
    unfold setAdd
    refine wpAny_bind (wpAny_holding (wpAny_holding (wpAny_bind ((nestedKind P w).pyHash (show A.in1.units + 8 < cLine from hu) (show (nestedKind P w).is s'.heap p.2 p.1 from hx) ?_))))
    refine add1 (s := { s' with toks := s'.toks + p.2.draws }) hT' hx hu (by have := g.len; omega) fun b h' L' es' ep' t' sb hT2 c1 c2 => ?_
    have g' := some_next g hp c1 c2
    have kp2 : ∀ b o, h0.get? b = some o → h'.get? b = some o := fun b o e => (sb.2 b (fun z => by rw [z, hS] at e; cases e)).trans (kp' b o e)
    refine wpAny_pure ⟨plainId_quiet F.plain_set_update_loop _, ih (i + 1) _ (by omega) lt (W.frame _ s' _ _ hst' (Nat.le_add_right _ _) fun b hb o e => ?_) kp2 ⟨L', es', ep', t', hT2, g'⟩ fun s2 L2 es2 ep2 t2 mv2 hT3 g2 kp3 => ?_⟩
    · rw [sb.2 b (fun z : b = S => nS (by rw [← z]; exact hb))]
      exact e
    · refine fin s2 L2 es2 ep2 t2 (Moved.trans W.gtrans ((mv.mono up).then_heap (Nat.le_add_right _ _) fun b o hb e => ?_) mv2) hT3 g2 kp3
      rw [sb.2 b (fun z : b = S => hb (by rw [z]; exact List.mem_cons_self ..))]
      exact e
end
end Sd
namespace Sd
open PySem PySem.Spec PyProof.Rows L2
section
variable {P : Program} {w : World} {A : Around} {E : Value → Shared → Prop} {s : Shared}
set_option maxRecDepth 100000 in
set_option maxHeartbeats 4000000 in
/-- set(xs), xs a list or a tuple of keys -/
theorem call_setN {l : Addr} {items : Array Value} (ks : List (Addr × NK)) {Q : Value → Shared → Prop} (hh : A.handled = none) (hl : s.heap.IsList l items ∨ s.heap.IsTuple l items) (hit : items.toList = ks.map fun p => Value.ref p.1) (hk : ∀ p ∈ ks, Is8 s.heap p.2 p.1) (few : ks.length < 64) (hu : A.units + 12 < cLine)
    (h : ∀ (h' : PySem.Heap) (tk : Nat) L es ep t, Ts w h' s.heap.objs.size L es ep t → Some1 ks ks.length L → (∀ b o, s.heap.get? b = some o → h'.get? b = some o) → Q (.ref s.heap.objs.size) { s with heap := h', toks := tk }) :
    wpAny (model P w) A (call (.type "set") [.ref l]) Q E s := by
  have hisz : items.size = ks.length := by
    have z := congrArg List.length hit
    rwa [Array.length_toList, List.length_map] at z
  have hval : ∀ (i : Nat) (v : Value), items[i]? = some v → ∃ p, ks[i]? = some p ∧ v = .ref p.1 := fun i v hv => by
    rw [← Array.getElem?_toList, hit, List.getElem?_map] at hv
    cases e : ks[i]? with
    | none =>
      rw [e] at hv
      cases hv
    | some p =>
      rw [e] at hv
      exact ⟨p, rfl, (Option.some.inj hv).symm⟩
  obtain ⟨c, tl, hmro⟩ := PySem.F.called_set.mro
  have hmade := PySem.F.called_set.made
  have hsub := PySem.F.called_set.sub
  refine wpAny_call (codeAny_of_tree ?_)
  show wpAny _ _ (callAny (.type "set") _) _ _ _
  refine wpAny_pure ⟨Code.quiet_builtin _ (by decide +kernel), codeAny_builtin PySem.F.entry_type_call ?_⟩
  rw [Around.under_plain (weight_type_call_type "set" [.ref l] []) rfl]
  have h1 := PySem.F.called_set.notType
  have h2 := PySem.F.called_set.canCreate
  have hct := PySem.F.typeCall_set_1 (.ref l)
  repeat (any_goals (first | assumption | wp_step))
  refine codeAny_mono (code_set_led1 (.ref l) (E := E) (Q₁ := fun obj s₁ => obj = .ref s.heap.objs.size ∧ s₁ = { s with heap := s.heap.push (Sx.emptyObj w) }) ⟨rfl, rfl⟩) fun r s₁ hr => ?_
  cases r with
  | error e => exact hr
  | ok fl =>
    cases fl with
    | ret obj =>
      obtain ⟨rfl, rfl⟩ := hr
      have hS : (s.heap.push (Sx.emptyObj w)).get? s.heap.objs.size = some (Sx.emptyObj w) := Heap.get?_push_size _ rfl
      have hT : Shared.TypeIs { s with heap := s.heap.push (Sx.emptyObj w) } (.ref s.heap.objs.size) "set" := ⟨_, hS, rfl⟩
      have hli := PySem.F.called_set.init.lookup
      have hbi := PySem.F.called_set.init.bind (.ref s.heap.objs.size)
      repeat (any_goals (first | assumption | wp_step))
      refine codeAny_mono (codeAny_call_builtin (R := wants (fun r s₂ => r = .none ∧ ∃ h' tk L es ep t, s₂ = { s with heap := h', toks := tk } ∧ Ts w h' s.heap.objs.size L es ep t ∧ Some1 ks ks.length L ∧
          (∀ b o, s.heap.get? b = some o → h'.get? b = some o)) E) PySem.F.called_set.init.plain PySem.F.entry_set_init (check_set_init_1 hT ?_)) fun r₂ s₂ hr₂ => ?_
      · have hh3 : A.in1.in1.in1.handled = none := by simp [hh]
        have hz1 : (s.heap.push (Sx.emptyObj w)).objs.size = s.heap.objs.size + 1 := Heap.size_push ..
        rcases hl with hl | hl
        · obtain ⟨ol, hol, hcl, nl, hdl⟩ := hl
          obtain ⟨ocls, odict, odata, oslots⟩ := ol
          simp only at hcl hdl
          subst hcl; subst hdl
          have hol' : (s.heap.push (Sx.emptyObj w)).get? l = some { cls := .type "list", dict := odict, data := .seq items nl, slots := oslots } := Heap.get?_push_of_some _ hol
          have hsls := PySem.F.sub_list_set
          have hslf := PySem.F.sub_list_frozenset
          have hne : (Value.type "list" == Value.type "dict") = false := by decide
          have hl1 : (s.heap.push (Sx.emptyObj w)).IsList l items := ⟨_, hol', rfl, nl, rfl⟩
          unfold Builtin.«set.__init__» noKeywords Builtin.Frozenset.updateFrom
          generalize hPI : pyIter = PI
          wp_walk
          subst hPI
          refine wpAny_pyIter_list hl1 ?_
          refine wpAny_bind (wpAny_runValue ?_)
          have hlS : l < s.heap.objs.size := Heap.lt_size hol
          have hneI : l ≠ (s.heap.push (Sx.emptyObj w)).objs.size := by
            rw [hz1]
            exact Nat.ne_of_lt (Nat.lt_succ_of_lt hlS)
          have hSf : s.heap.objs.size ∉ [(s.heap.push (Sx.emptyObj w)).objs.size, l] := by
            simp only [List.mem_cons, List.mem_singleton, List.not_mem_nil, or_false, not_or]
            rw [hz1]
            exact ⟨Nat.ne_of_lt (Nat.lt_succ_self _), Nat.ne_of_gt hlS⟩
          have hget : ((s.heap.push (Sx.emptyObj w)).push { cls := .type "list_iterator", data := .fields #[.ref l, .int 0 0] }).get? s.heap.objs.size = some (Sx.emptyObj w) := Heap.get?_push_of_some _ hS
          refine fill ((Walks.list hh3 _ l hneI items).toS) s.heap.objs.size hSf ks hisz few hval s.heap hk (Heap.get?_none_of_le (Nat.le_refl _)) (fun b hb => ?hw1) (by simp only [Around.in1_units]; omega) (items.size - 0) 0 _ (by omega) (Nat.zero_le _)
            ⟨⟨_, Heap.get?_push_size _ rfl, rfl, rfl⟩, (hl1.push _)⟩ (fun b o e => Heap.get?_push_of_some _ (Heap.get?_push_of_some _ e)) ⟨[], _, _, _, ts_new hget, some_zero ks⟩ ?hR1
          case hw1 =>
            rw [List.mem_singleton.mp hb, hz1]
            exact Heap.get?_none_of_le (Nat.le_succ _)
          case hR1 =>
            intro s' L es ep t hm hS' hmm hkk
            obtain ⟨h', g', d', tk', os'⟩ := s'
            have eg : g' = s.gens := hm.gens
            have ed : d' = s.drawn := hm.drawn
            have eo : os' = s.os := hm.os
            subst eg; subst ed; subst eo
            show wpAny _ _ _ _ _ _
            refine wpAny_pure ?_
            show wpAny _ _ (ret Value.none) _ _ _
            exact wpAny_pure ⟨rfl, h', tk', L, es, ep, t, rfl, hS', hisz ▸ hmm, hkk⟩
        · obtain ⟨ol, hol, hcl, nl, hdl⟩ := hl
          obtain ⟨ocls, odict, odata, oslots⟩ := ol
          simp only at hcl hdl
          subst hcl; subst hdl
          have hol' : (s.heap.push (Sx.emptyObj w)).get? l = some { cls := .type "tuple", dict := odict, data := .seq items nl, slots := oslots } := Heap.get?_push_of_some _ hol
          have hsls := PySem.F.sub_tuple_set
          have hslf := PySem.F.sub_tuple_frozenset
          have hne : (Value.type "tuple" == Value.type "dict") = false := by decide
          have hl1 : (s.heap.push (Sx.emptyObj w)).IsTuple l items := ⟨_, hol', rfl, nl, rfl⟩
          unfold Builtin.«set.__init__» noKeywords Builtin.Frozenset.updateFrom
          generalize hPI : pyIter = PI
          wp_walk
          subst hPI
          refine wpAny_pyIter_tuple hl1 ?_
          refine wpAny_bind (wpAny_runValue ?_)
          have hlS : l < s.heap.objs.size := Heap.lt_size hol
          have hneI : l ≠ (s.heap.push (Sx.emptyObj w)).objs.size := by
            rw [hz1]
            exact Nat.ne_of_lt (Nat.lt_succ_of_lt hlS)
          have hSf : s.heap.objs.size ∉ [(s.heap.push (Sx.emptyObj w)).objs.size, l] := by
            simp only [List.mem_cons, List.mem_singleton, List.not_mem_nil, or_false, not_or]
            rw [hz1]
            exact ⟨Nat.ne_of_lt (Nat.lt_succ_self _), Nat.ne_of_gt hlS⟩
          have hget : ((s.heap.push (Sx.emptyObj w)).push { cls := .type "tuple_iterator", data := .fields #[.ref l, .int 0 0] }).get? s.heap.objs.size = some (Sx.emptyObj w) := Heap.get?_push_of_some _ hS
          refine fill ((Walks.tuple hh3 _ l hneI items).toS) s.heap.objs.size hSf ks hisz few hval s.heap hk (Heap.get?_none_of_le (Nat.le_refl _)) (fun b hb => ?hw2) (by simp only [Around.in1_units]; omega) (items.size - 0) 0 _ (by omega) (Nat.zero_le _)
            ⟨⟨_, Heap.get?_push_size _ rfl, rfl, rfl⟩, (hl1.push _)⟩ (fun b o e => Heap.get?_push_of_some _ (Heap.get?_push_of_some _ e)) ⟨[], _, _, _, ts_new hget, some_zero ks⟩ ?hR2
          case hw2 =>
            rw [List.mem_singleton.mp hb, hz1]
            exact Heap.get?_none_of_le (Nat.le_succ _)
          case hR2 =>
            intro s' L es ep t hm hS' hmm hkk
            obtain ⟨h', g', d', tk', os'⟩ := s'
            have eg : g' = s.gens := hm.gens
            have ed : d' = s.drawn := hm.drawn
            have eo : os' = s.os := hm.os
            subst eg; subst ed; subst eo
            show wpAny _ _ _ _ _ _
            refine wpAny_pure ?_
            show wpAny _ _ (ret Value.none) _ _ _
            exact wpAny_pure ⟨rfl, h', tk', L, es, ep, t, rfl, hS', hisz ▸ hmm, hkk⟩
      · cases r₂ with
        | error e => exact hr₂
        | ok fl₂ =>
          cases fl₂ with
          | ret r =>
            obtain ⟨rfl, h', tk, L, es, ep, t, rfl, hS', hmm, hk'⟩ := hr₂
            repeat (any_goals (first | assumption | wp_step))
            exact h _ _ _ _ _ _ hS' hmm hk'
          | _ => exact hr₂.elim
    | _ => exact hr.elim
end
end Sd
/-! Sorting tuples of alike data, the empty tuple among them. -/
namespace Sd
open PySem PySem.Spec PyProof.Rows L2 PySem.W PySem.Calls
open PySem.SeqAt
def more : PyData → Bool
  | .tuple (_ :: _) => true
  | _ => false
section
variable {P : Program} {w : World} {A : Around} {E : Value → Shared → Prop} {s : Shared}
theorem call_tuple_lt {Q : Value → Shared → Prop} {l b : Addr} {items items2 : Array Value} {e r : Nat → Bool} (hl : s.heap.IsTuple l items) (hb : s.heap.IsTuple b items2)
    (he : ∀ j (h1 : j < items.size) (h2 : j < items2.size), EqAt A.in1 s items[j] items2[j] (e j)) (hr : ∀ j (h1 : j < items.size) (h2 : j < items2.size), e j = false → RcLt A.in1 s items[j] items2[j] (r j))
    (h : Q (.bool (firstLt e r (decide (items.size < items2.size)) (List.range (min items.size items2.size)))) s) : wpAny (model P w) A (call (.builtin "tuple.__lt__") [.ref l, .ref b]) Q E s := by
  obtain ⟨⟨cls, dd, data, sl⟩, ho, hc, n, hd⟩ := id hl
  obtain ⟨⟨cls2, dd2, data2, sl2⟩, ho2, hc2, n2, hd2⟩ := id hb
  simp only at hc hd hc2 hd2
  subst hc hd hc2 hd2
  exact call_meets F.slot_tuple_lt ⟨_, ho, rfl⟩ F.entry_tuple_lt (F.args_tuple_lt_2 _ _) (tuple_ltAt l b items items2 n n2 dd dd2 sl sl2 e r) ⟨ho, ho2, he, hr, h⟩
theorem oneLt_tup {xs ys : List PyData} {a b : Value} {as bs : List Addr} {Q : Bool → Shared → Prop} (ra : PySem.Reads s.heap a (.tuple xs) as) (rb : PySem.Reads s.heap b (.tuple ys) bs) (h : alike (.tuple xs) (.tuple ys) = true)
    (hu : A.units + min (PyData.tuple xs).depth (PyData.tuple ys).depth < cLine) (hq : Q (dataLt (.tuple xs) (.tuple ys)) s) : wpAny (model P w) A (oneLt' true a b) Q E s := by
  have hal : alikeAll xs ys = true := by simpa [alike] using h
  cases ra with
  | @tuple l o vs n _ as₁ h1 h2 h3 h4 =>
    cases rb with
    | @tuple l' o' vs' n' _ bs₁ k1 k2 k3 k4 =>
      have n1 : vs.size = xs.length := by simpa using SeqAt.ReadsAll.length _ _ _ h4
      have n2 : vs'.size = ys.length := by simpa using SeqAt.ReadsAll.length _ _ _ k4
      rw [dataLt_tuple, ← firstLt_toks xs ys hal, ← n1, ← n2] at hq
      rw [oneLt'_eq]
      simp only [if_true]
      refine wpAny_bind (wpAny_cRoomFor (room_here hu) ?_)
      refine wpAny_bind (wpAny_callSpecialIfBound?_slot (T := "tuple") ⟨_, h1, h2⟩ F.slot_tuple_lt (call_tuple_lt (e := pairEq xs ys) (r := fun j => dataLt (xs.getD j .none) (ys.getD j .none)) ⟨_, h1, h2, _, h3⟩ ⟨_, k1, k2, _, k3⟩ (fun j j1 j2 => ?_) (fun j j1 j2 hj => ?_) ?_))
      · have := eqAt_alikeAll xs ys A.in1 s vs.toList vs'.toList _ _ h4 k4 hal (room_in hu) j (by simpa using j1) (by simpa using j2)
        simpa using this
      · have := rcLt_alikeAll xs ys A.in1 s vs.toList vs'.toList _ _ h4 k4 hal (room_in hu) j (by simpa using j1) (by simpa using j2) hj
        simpa using this
      · exact wpAny_truthy_bool hq
theorem firsts {M : Model} {A : Around} {E : Value → Shared → Prop} {s : Shared} : ∀ {vs : List Value} {ds : List PyData}, EachIs (fun v d => ∃ as, PySem.Reads s.heap v d as) vs ds → (∀ d ∈ ds, ∃ xs, d = .tuple xs) → ∀ {Q : List (Option Value) → Shared → Prop}, (∀ os : List (Option Value), os.map (·.isSome) = ds.map more → Q os s) → wpAny M A (vs.mapM firstOfTuple') Q E s
  | _, _, .nil, _, _, h => by
    rw [List.mapM_nil]
    exact wpAny_pure (h [] rfl)
  | _, _, .cons (a := v) (b := d) (as := vs) (bs := ds) ⟨as, r⟩ t, ht, Q, h => by
    obtain ⟨xs, rfl⟩ := ht d (List.mem_cons_self ..)
    cases r with
    | @tuple a o us n _ _ ho hc hd hr =>
      rw [List.mapM_cons]
      refine wpAny_bind ?_
      rw [kas_first_eq]
      refine wpAny_bind (Looks.here (show Looks M s.heap (typeOf (.ref a)) o.cls from (Looks.ld ho).andThen .now) ?_)
      rw [hc, if_neg (by first | decide | simp)]
      refine wpAny_bind (listItems_at ho hd (wpAny_pure ?_))
      refine wpAny_bind (firsts t (fun d hd => ht d (List.mem_cons_of_mem _ hd)) fun os eos => wpAny_pure (h _ ?_))
      have hn : us.size = xs.length := by simpa using SeqAt.ReadsAll.length _ _ _ hr
      have e1 : (us[0]?).isSome = more (.tuple xs) := by
        cases xs with
        | nil =>
          have z : us.size = 0 := hn
          rw [Array.getElem?_eq_none (by omega)]
          rfl
        | cons x xs =>
          have z : 0 < us.size := by
            rw [hn]
            exact Nat.succ_pos _
          rw [Array.getElem?_eq_getElem z]
          rfl
      rw [List.map_cons, List.map_cons, eos, e1]
theorem kind_of {M : Model} {A : Around} {E : Value → Shared → Prop} {s : Shared} {vs : List Value} {ds : List PyData} (e : EachIs (fun v d => ∃ as, PySem.Reads s.heap v d as) vs ds) (ht : ∀ d ∈ ds, ∃ xs, d = .tuple xs) (hne : ds.all more = false) {Q : SortKind → Shared → Prop}
    (h : Q (if (ds.map more).head? = some true then general' else oneType') s) : wpAny M A (keyKind' vs.toArray) Q E s := by
  rw [kat_kind_eq, List.mapM_toArray, map_eq_pure_bind]
  refine wpAny_bind (wpAny_bind (firsts e ht fun os eos => wpAny_pure ?_))
  have h1 : (os.toArray.all fun x => x.isSome) = false := by
    rw [List.all_toArray]
    have z : os.all (fun x => x.isSome) = (os.map (·.isSome)).all id := by
      rw [List.all_map]
      rfl
    rw [z, eos, List.all_map]
    exact hne
  rw [if_neg (by rw [h1]; exact Bool.false_ne_true)]
  have h2 : ((os.toArray[0]?).bind id).isSome = true ↔ (ds.map more).head? = some true := by
    rw [← eos]
    cases os with
    | nil => simp
    | cons o os =>
      cases o <;> simp
  by_cases c : (ds.map more).head? = some true
  · rw [if_pos c] at h
    rw [if_pos (h2.mpr c)]
    exact wpAny_pure h
  · rw [if_neg c] at h
    rw [if_neg (fun z => c (h2.mp z))]
    have hT : ∀ v ∈ vs, Looks M s.heap (typeOf v) (Value.type "tuple") := fun v hv => by
      obtain ⟨d, hd, as, r⟩ := e.left v hv
      obtain ⟨xs, rfl⟩ := ht d hd
      exact looks_reads r
    have hv : vs ≠ [] := by
      rintro rfl
      cases e
      exact absurd hne (by decide)
    rw [oneTypeOnly'_eq, List.mapM_toArray, map_eq_pure_bind]
    refine wpAny_bind (wpAny_bind (wpAny_bind (kas_mapM (r := Value.type "tuple") _ (fun v hv Q' hq => (hT v hv).here hq) (wpAny_pure ?_))))
    have hall2 : ((List.map (fun _ => Value.type "tuple") vs).toArray.all fun x => x == Value.type "tuple") = true := by
      simp only [List.all_toArray, List.all_map, List.all_eq_true]
      intro _ _
      rfl
    have h0 : (List.map (fun _ => Value.type "tuple") vs).toArray[0]? = some (Value.type "tuple") := by
      cases vs with
      | nil => exact absurd rfl hv
      | cons v vs => simp
    rw [h0]
    simp only [hall2, if_true]
    exact wpAny_pure (wpAny_pure h)
theorem sorts_tups {vs : List Value} {ds : List PyData} (e : EachIs (fun v d => ∃ as, PySem.Reads s.heap v d as) vs ds) (hal : AllAlike ds) (ht : ∀ d ∈ ds, ∃ xs, d = .tuple xs) (hu : ∀ d, d ∈ ds → A.units + d.depth < cLine) : SortsAt P w A s (dataKind s.heap ds) vs := by
  have room : ∀ {d d' : PyData}, d ∈ ds → A.units + min d.depth d'.depth < cLine := fun {d d'} hd => Nat.lt_of_le_of_lt (Nat.add_le_add_left (Nat.min_le_left _ _) _) (hu d hd)
  by_cases hne : ds.all more = true
  · refine SortsAt.data e hal (.inl fun d hd => ?_) hu
    have z := List.all_eq_true.mp hne d hd
    obtain ⟨xs, rfl⟩ := ht d hd
    cases xs with
    | nil => exact absurd z (by decide)
    | cons x xs => exact ⟨x, xs, rfl⟩
  · refine ⟨fun v hv => ?_, if (ds.map more).head? = some true then general' else oneType', ?_, fun _ E Q hq => kind_of e ht (by simpa using hne) hq⟩
    · obtain ⟨d, hd, as, r⟩ := e.left v hv
      exact ⟨_, dataKind_some hal hd r⟩
    · intro E x y a b Q ha hb hq
      obtain ⟨d, as, hd, ra, rfl⟩ := dataKind_inv ha
      obtain ⟨d', as', hd', rb, rfl⟩ := dataKind_inv hb
      have hdd := hal d hd d' hd'
      have hroom := room (d' := d') hd
      obtain ⟨xs, rfl⟩ := ht d hd
      obtain ⟨ys, rfl⟩ := ht d' hd'
      by_cases c : (ds.map more).head? = some true
      · rw [if_pos c]
        show wpAny (model P w) A (oneLt' false x y) Q E s
        exact oneLt_alike (fun z => nomatch z) ra rb hdd (fun z => nomatch z) hroom hq
      · rw [if_neg c, keyLt'_oneType]
        exact oneLt_tup ra rb hdd hroom hq
variable {β : Type} {vs : List Value} {bs : List β} {enc : β → PyData} {R : Value → β → Prop}
/-- xs.sort() -/
theorem list_sort_tups {a : Addr} {n : Nat} {Q : Value → Shared → Prop} (ho : s.heap.get? a = some (seqObj "list" vs.toArray n)) (e : EachIs R vs bs) (er : EachIs (fun v b => ∃ as, PySem.Reads s.heap v (enc b) as ∧ a ∉ as) vs bs) (hal : AllAlike (bs.map enc)) (ht : ∀ b ∈ bs, ∃ xs, enc b = .tuple xs) (hL : bs.length ≤ sizeLine)
    (hu : ∀ b, b ∈ bs → A.units + 1 + (enc b).depth < cLine) (h : ∀ out, out.length = bs.length → EachIs R out (bs.mergeSort (dataLe false enc)) → Q .none { s with heap := sortedHeap s.heap a vs (List.toArray out) }) :
    wpAny (model P w) A (call (.builtin "list.sort") [.ref a]) Q E s := by
  have er' : EachIs (fun v b => ∃ as, PySem.Reads (sortingHeap s.heap a vs) v (enc b) as) vs bs := each_keepBut (h' := sortingHeap s.heap a vs) (fun _ _ hb q => sortingHeap_old hb q) (fun o q => by rw [ho] at q; rw [← Option.some.inj q]) hal er
  refine wpAny_call_entry slot_list_sort ⟨_, ho, rfl⟩ entry_list_sort (list_sort_vals (κ := dataKind (sortingHeap s.heap a vs) (bs.map enc)) ho (sorts_tups (s := { s with heap := sortingHeap s.heap a vs }) (each_map (R := fun v d => ∃ as, PySem.Reads (sortingHeap s.heap a vs) v d as) enc er') hal (fun d hd => ?_) (bound_map hu)) (by rw [e.length]; exact hL) ⟨.none, rfl, ?_⟩) (args_list_sort _)
  · obtain ⟨b, hb, rfl⟩ := List.mem_map.mp hd
    exact ht b hb
  · exact h _ (by rw [sortVals_length false rfl]; exact e.length) (sortVals_data false e er' hal)
end
end Sd
/-! Sets of nested tuples over the layer: set(xs), sorted(set). -/
namespace Sd
open PySem PySem.Spec PyProof.Rows L2 Bx TL Dx PySem.W PySem.Calls
mutual
/-- the key that a datum is -/
def nk : PyData → NK
  | .int i => .num i
  | .str x => .text x
  | .tuple xs => .tup (nks xs)
  | _ => .none
def nks : List PyData → List NK
  | [] => []
  | d :: ds => nk d :: nks ds
end
mutual
/-- made of whole numbers, texts and tuples -/
def plain : PyData → Bool
  | .int _ => true
  | .str _ => true
  | .tuple xs => plains xs
  | _ => false
def plains : List PyData → Bool
  | [] => true
  | d :: ds => plain d && plains ds
end
mutual
theorem nk_inj : ∀ (d e : PyData), plain d = true → plain e = true → nk d = nk e → d = e
  | .int i, e, _, he, h => by
    cases e <;> first | (simp only [nk] at h; cases h; rfl) | (simp only [nk] at h; cases h; done) | (simp only [plain] at he; cases he; done)
  | .str i, e, _, he, h => by
    cases e <;> first | (simp only [nk] at h; cases h; rfl) | (simp only [nk] at h; cases h; done) | (simp only [plain] at he; cases he; done)
  | .tuple xs, e, hd, he, h => by
    cases e with
    | tuple ys =>
      simp only [nk, NestedKey.tup.injEq] at h
      simp only [plain] at hd he
      rw [nks_inj xs ys hd he h]
    | _ => first | (simp only [nk] at h; cases h; done) | (simp only [plain] at he; cases he; done)
  | .none, _, hd, _, _ => by simp [plain] at hd
  | .bool _, _, hd, _, _ => by simp [plain] at hd
  | .list _, _, hd, _, _ => by simp [plain] at hd
  | .dict _, _, hd, _, _ => by simp [plain] at hd
theorem nks_inj : ∀ (ds es : List PyData), plains ds = true → plains es = true → nks ds = nks es → ds = es
  | [], [], _, _, _ => rfl
  | [], _ :: _, _, _, h => by simp [nks] at h
  | _ :: _, [], _, _, h => by simp [nks] at h
  | d :: ds, e :: es, hd, he, h => by
    simp only [nks, List.cons.injEq] at h
    simp only [plains, Bool.and_eq_true] at hd he
    rw [nk_inj d e hd.1 he.1 h.1, nks_inj ds es hd.2 he.2 h.2]
end
mutual
theorem is_nk {h : PySem.Heap} : ∀ (d : PyData) (v : Value) (as : List Addr), plain d = true → PySem.Reads h v d as → NestedIs h (nk d) v ∧ as = []
  | .int _, _, _, _, r => by
    cases r
    exact ⟨.int _ _, rfl⟩
  | .str _, _, _, _, r => by
    cases r
    exact ⟨.text _ _, rfl⟩
  | .tuple xs, _, _, hd, r => by
    simp only [plain] at hd
    cases r with
    | tuple h1 h2 h3 h4 =>
      obtain ⟨q1, q2⟩ := is_nks xs _ _ hd h4
      exact ⟨.tup h1 h2 h3 q1, q2⟩
  | .none, _, _, hd, _ => by simp [plain] at hd
  | .bool _, _, _, hd, _ => by simp [plain] at hd
  | .list _, _, _, hd, _ => by simp [plain] at hd
  | .dict _, _, _, hd, _ => by simp [plain] at hd
theorem is_nks {h : PySem.Heap} : ∀ (ds : List PyData) (vs : List Value) (as : List Addr), plains ds = true → PySem.ReadsAll h vs ds as → NestedAll h (nks ds) vs ∧ as = []
  | [], _, _, _, r => by
    cases r
    exact ⟨.nil, rfl⟩
  | d :: ds, _, _, hd, r => by
    simp only [plains, Bool.and_eq_true] at hd
    cases r with
    | cons r1 r2 =>
      obtain ⟨q1, q2⟩ := is_nk d _ _ hd.1 r1
      obtain ⟨q3, q4⟩ := is_nks ds _ _ hd.2 r2
      exact ⟨.cons q1 q3, by rw [q2, q4]; rfl⟩
end
/-- a tuple made of such data, not deep -/
def K8 (d : PyData) : Prop := (∃ xs, d = .tuple xs) ∧ plain d = true ∧ (nk d).depth ≤ 8 ∧ d.depth ≤ 60
theorem perm_each {α β : Type} {R : α → β → Prop} {out its : List α} (pm : out.Perm its) : ∀ {ds : List β}, EachIs R its ds → ∃ es : List β, es.Perm ds ∧ EachIs R out es := by
  induction pm with
  | nil => exact fun e => ⟨_, List.Perm.refl _, e⟩
  | cons x p ih =>
    intro ds e
    cases e with
    | cons h t =>
      obtain ⟨es, q1, q2⟩ := ih t
      exact ⟨_ :: es, q1.cons _, .cons h q2⟩
  | swap x y l =>
    intro ds e
    cases e with
    | cons h t =>
      cases t with
      | cons h2 t2 => exact ⟨_ :: _ :: _, List.Perm.swap _ _ _, .cons h2 (.cons h t2)⟩
  | trans p q ih1 ih2 =>
    intro ds e
    obtain ⟨es, a1, a2⟩ := ih2 e
    obtain ⟨fs, b1, b2⟩ := ih1 a2
    exact ⟨fs, b1.trans a1, b2⟩
section
variable {P : Program} {w : World} {A : Around} {E : Value → Shared → Prop} {s : Shared} {a : Addr} {L : List (Addr × NK)} {es : Array (Int × Value)} {ep : Nat} {t : SetTable}
theorem sorted_setN {Rl : Value → PyData → Prop} {ds : List PyData} {Q : Value → Shared → Prop} (T : Ts w s.heap a L es ep t) (hh : A.handled = none) (hu : A.units + 65 < cLine)
    (e : EachIs Rl (L.map fun p => Value.ref p.1) ds) (er : EachIs (fun u d => ∃ as, PySem.Reads s.heap u d as) (L.map fun p => Value.ref p.1) ds) (hal : AllAlike ds) (hk : ∀ d ∈ ds, K8 d)
    (hQ : ∀ s' p (out : List Value) (c : Nat) (fs : List PyData), (∀ b o, s.heap.get? b = some o → s'.heap.get? b = some o) → s'.gens = s.gens → s'.os = s.os → s.heap.objs.size ≤ p →
      s'.heap.get? p = some (seqObj "list" out.toArray c) → fs.Perm ds → EachIs Rl out (fs.mergeSort (dataLe false id)) → Q (.ref p) s') :
    wpAny (model P w) A (call (.builtin "sorted") [.ref a]) Q E s := by
  obtain ⟨o, ho, hex, hd⟩ := T.obj
  have hn := T.num
  have hfew := T.few
  have hsb : scanBound = 4096 := rfl
  have hva : es.toList.map (·.2) = L.map fun p => Value.ref p.1 := by
    rw [T.row, List.map_map]
    rfl
  refine Calls.call_function_entry kind_sorted plain_sorted entry_sorted (args_sorted1 _) ?_
  unfold Builtin.«sorted»
  refine wpAny_bind (m := checkCount "sorted" 1 1 _) (wpAny_pure ?_)
  refine wpAny_bind (collect_set (A := A.in1) hh ⟨_, ho, hex.1, hd⟩ T.fit (by rw [hn]; omega) T.tab.ris T.led fun s1 vs k1 hz g1 o1 pm => ?_)
  rw [hva] at pm
  have both : EachIs (fun u d => Rl u d ∧ ∃ as, PySem.Reads s.heap u d as) (L.map fun p => Value.ref p.1) ds := by
    clear hQ hal hk hva
    revert e er
    generalize (L.map fun p => Value.ref p.1) = us
    intro e er
    clear pm
    induction e with
    | nil => exact .nil
    | cons h t ih =>
      cases er with
      | cons r1 r2 => exact .cons ⟨h, r1⟩ (ih r2)
  obtain ⟨fs, pf, ef⟩ := perm_each pm both
  have hfl : fs.length = L.length := by rw [pf.length_eq, ← e.length, List.length_map]
  have hvl : vs.length = L.length := by rw [pm.length_eq, List.length_map]
  have hline : vs.length ≤ sizeLine := by
    rw [hvl, sizeLine_eq]
    omega
  refine wpAny_bind (wpAny_newList ?_ hline)
  have hoL : (s1.heap.push (seqObj "list" vs.toArray 0)).get? s1.heap.objs.size = some (seqObj "list" vs.toArray 0) := Heap.get?_push_size _ rfl
  have mfs : ∀ d ∈ fs, d ∈ ds := fun d hd => pf.mem_iff.mp hd
  have kp : ∀ b u, s.heap.get? b = some u → (s1.heap.push (seqObj "list" vs.toArray 0)).get? b = some u := fun b u q => Heap.get?_push_of_some _ (k1 b u q)
  refine wpAny_bind (wpAny_holding (list_sort_tups (R := Rl) (enc := id) (bs := fs) hoL (ef.mono fun _ _ z => z.1) ?reads (by rw [List.map_id]; exact fun d hd d' hd' => hal d (mfs d hd) d' (mfs d' hd')) (fun d hd => (hk d (mfs d hd)).1) (by rw [hfl, sizeLine_eq]; omega) (fun d hd => ?room) fun out hout eo => ?done))
  case reads =>
    refine (each_mem ef).mono fun u d z => ?_
    obtain ⟨as, r⟩ := z.1.2
    have z0 := (is_nk d u as (hk d (mfs d z.2)).2.1 r).2
    exact ⟨as, PyProof.Rows.Reads.keeps kp r, by rw [z0]; exact List.not_mem_nil⟩
  case room =>
    have z := (hk d (mfs d hd)).2.2.2
    show A.in1.units + 1 + d.depth < cLine
    simp only [Around.in1_units]
    omega
  case done =>
    obtain ⟨c, hc⟩ := sortedHeap_at (vs := vs) (out := out.toArray) hoL
    refine wpAny_pure ⟨_, rfl, hQ _ s1.heap.objs.size out c fs (fun b u q0 => ?_) g1 o1 hz hc pf eo⟩
    have q := k1 b u q0
    have hlt := Heap.lt_size q
    show (sortedHeap (s1.heap.push (seqObj "list" vs.toArray 0)) s1.heap.objs.size vs _).get? b = some u
    rw [sortedHeap_old (Nat.ne_of_lt hlt) (by rw [size_push']; exact Nat.lt_succ_of_lt hlt)]
    exact Heap.get?_push_of_some _ q
end
/-! ### over the layer -/
def SetN (w : World) (a : Addr) (L : List (Addr × NK)) : HO := .ext fun h => ∃ h0 es ep t, Ts w h0 a L es ep t ∧ ∀ o, h0.get? a = some o → h.get? a = some o
section
variable {X : Cx} {pins : List (Addr × Obj)} {σ : L2.St} {H : Hp} {s : Shared}
theorem setN_ok {P : Program} {w : World} {h : PySem.Heap} {a : Addr} {L : List (Addr × NK)} {es : Array (Int × Value)} {ep : Nat} {t : SetTable} (R : Ts w h a L es ep t) : ObjOk P w H h a (SetN w a L) := by
  obtain ⟨o, ho, _⟩ := R.obj
  exact ⟨⟨h, es, ep, t, R, fun _ z => z⟩, ⟨_, ho⟩, fun h1 h2 ⟨h0, es, ep, t, p, k⟩ k2 => ⟨h0, es, ep, t, p, fun o z => k2 o (k o z)⟩⟩
theorem keys_of (I : Inv X pins σ H s) : ∀ {xs : List V} {us : List Value} {ds : List PyData}, DpAll X.K H xs ds → Vals xs us → (∀ d ∈ ds, K8 d) →
    ∃ ks : List (Addr × NK), us = ks.map (fun p => Value.ref p.1) ∧ ks.map (·.2) = ds.map nk ∧ (∀ p ∈ ks, Is8 s.heap p.2 p.1) ∧ ∀ p ∈ ks, ∃ d ∈ ds, p.2 = nk d ∧ Dp X.K H (V.ref p.1) d
  | [], [], [], _, _, _ => ⟨[], rfl, rfl, fun p hp => (by cases hp), fun p hp => (by cases hp)⟩
  | x :: xs, u :: us, d :: ds, h, r, hk => by
    cases h with
    | cons h1 h2 =>
      cases r with
      | cons r1 r2 =>
        obtain ⟨ks, q1, q2, q3, q4⟩ := keys_of I h2 r2 fun d hd => hk d (List.mem_cons_of_mem _ hd)
        obtain ⟨⟨ys, rfl⟩, k1, k2, k3⟩ := hk d (List.mem_cons_self ..)
        obtain ⟨as, rd⟩ := Dp.reads I _ _ _ h1 r1
        obtain ⟨b, zs, rfl, _⟩ := dp_tup h1
        have eu : u = Value.ref b := by
          cases r1
          rfl
        subst eu
        refine ⟨(b, nk (.tuple ys)) :: ks, by rw [q1]; rfl, by rw [List.map_cons, List.map_cons, q2], fun p hp => ?_, fun p hp => ?_⟩
        · rcases List.mem_cons.mp hp with z | z
          · rw [z]
            exact ⟨(is_nk _ _ _ k1 rd).1, k2⟩
          · exact q3 p z
        · rcases List.mem_cons.mp hp with z | z
          · rw [z]
            exact ⟨_, List.mem_cons_self .., rfl, h1⟩
          · obtain ⟨e, e1, e2⟩ := q4 p z
            exact ⟨e, List.mem_cons_of_mem _ e1, e2⟩
  | [], _ :: _, _, _, r, _ => by cases r
  | _ :: _, [], _, _, r, _ => by cases r
  | [], [], _ :: _, h, _, _ => by cases h
  | _ :: _, _ :: _, [], h, _, _ => by cases h
theorem nodup_of {α β : Type} (f : α → β) : ∀ {l : List α}, (l.map f).Nodup → l.Nodup
  | [], _ => List.nodup_nil
  | x :: l, h => by
    rw [List.map_cons, List.nodup_cons] at h
    exact List.nodup_cons.mpr ⟨fun z => h.1 (List.mem_map.mpr ⟨x, z, rfl⟩), nodup_of f h.2⟩
theorem pairs_same {α β : Type} : ∀ {l m : List (α × β)}, l.map (·.1) = m.map (·.1) → l.map (·.2) = m.map (·.2) → l = m
  | [], [], _, _ => rfl
  | [], _ :: _, h, _ => by simp at h
  | _ :: _, [], h, _ => by simp at h
  | (a, b) :: l, (c, d) :: m, h, g => by
    simp only [List.map_cons, List.cons.injEq] at h g
    rw [h.1, g.1, pairs_same h.2 g.2]
theorem pick {K : PySem.W.Frag} {ds : List PyData} : ∀ (L : List (Addr × NK)), (∀ p ∈ L, ∃ d ∈ ds, p.2 = nk d ∧ Dp K H (V.ref p.1) d) → ∃ es : List PyData, DpAll K H (L.map fun p => V.ref p.1) es ∧ L.map (·.2) = es.map nk ∧ ∀ d ∈ es, d ∈ ds
  | [], _ => ⟨[], .nil, rfl, fun d hd => (by cases hd)⟩
  | p :: L, h => by
    obtain ⟨es, q1, q2, q3⟩ := pick L fun p hp => h p (List.mem_cons_of_mem _ hp)
    obtain ⟨d, d1, d2, d3⟩ := h p (List.mem_cons_self ..)
    refine ⟨d :: es, .cons d3 q1, by rw [List.map_cons, List.map_cons, q2, d2], fun e he => ?_⟩
    rcases List.mem_cons.mp he with z | z
    · rw [z]
      exact d1
    · exact q3 e z
/-- set(xs), xs a list or a tuple of such tuples -/
def rSetN (K : PySem.W.Frag) (w : World) : List V → Hp → VK → Prop := fun vs H Q => ∃ (a : Addr) (xs : List V) (ds : List PyData), vs = [V.ref a] ∧ (SqL K H a xs ∨ SqT K H a xs) ∧ DpAll K H xs ds ∧ (∀ d ∈ ds, K8 d) ∧ ds.length < 64 ∧
  ∀ p L es, H p = none → DpAll K H (L.map fun q => V.ref q.1) es → L.map (·.2) = es.map nk → es.Nodup → (∀ d, d ∈ es ↔ d ∈ ds) → es.length ≤ ds.length → Q (.ref p) (upd H p (SetN w p L))
theorem cr_setN {w : World} (hc : X.calm = true) (hw : X.w = w) (hu : X.A.units + 65 < cLine) : CallR X (.type "set") (rSetN X.K w) := by
  subst hw
  intro pins s σ H vs us Q I r h
  obtain ⟨a, xs, ds, rfl, hs, hd, hk, hlen, q⟩ := h
  rw [Vals.ref1 r]
  have hn : H s.heap.objs.size = none := I.hok.fresh (Nat.le_refl _)
  obtain ⟨its, rv, pl⟩ : ∃ its : List Value, Vals xs its ∧ (s.heap.IsList a its.toArray ∨ s.heap.IsTuple a its.toArray) := by
    rcases hs with hs | hs
    · obtain ⟨its, rv, pl, _⟩ := I.list hs
      exact ⟨its, rv, .inl pl.isList⟩
    · obtain ⟨its, rv, pl, _⟩ := I.tuple hs
      exact ⟨its, rv, .inr pl⟩
  obtain ⟨ks, e1, e2, e3, e4⟩ := keys_of I hd rv hk
  have hkl : ks.length = ds.length := by
    have z := congrArg List.length e2
    rwa [List.length_map, List.length_map] at z
  refine call_setN (P := X.prog) (w := X.w) ks (I.ok.hd hc) pl (by simpa using e1) e3 (by omega) (by omega) fun h' tk L es ep t T sm k => ?_
  obtain ⟨fs, f1, f2, f3⟩ := pick L fun p hp => e4 p (List.mem_of_mem_take (sm.sub p hp))
  have inj : ∀ d ∈ ds, ∀ d' ∈ ds, nk d = nk d' → d = d' := fun d hd d' hd' e => nk_inj d d' (hk d hd).2.1 (hk d' hd').2.1 e
  refine ⟨.ref s.heap.objs.size, upd H s.heap.objs.size (SetN X.w s.heap.objs.size L), I.laid (t' := tk) k (Nat.le_refl _) (setN_ok T), rfl, q _ L fs hn f1 f2 ?_ (fun d => ⟨f3 d, fun hd => ?_⟩) ?_⟩
  · have z := T.one
    rw [f2] at z
    exact nodup_of nk z
  · have z : nk d ∈ ks.map (·.2) := by
      rw [e2]
      exact List.mem_map.mpr ⟨d, hd, rfl⟩
    obtain ⟨p, hp, ep⟩ := List.mem_map.mp z
    have z2 := sm.all p (by rw [List.take_length]; exact hp)
    rw [f2, ep] at z2
    obtain ⟨d', hd', e'⟩ := List.mem_map.mp z2
    rw [← inj d' (f3 d' hd') d hd e']
    exact hd'
  · have z := sm.len
    have z2 := congrArg List.length f2
    rw [List.length_map, List.length_map] at z2
    omega
theorem refs_vals : ∀ (L : List (Addr × NK)), Vals (L.map fun q => V.ref q.1) (L.map fun q => Value.ref q.1)
  | [] => .nil
  | _ :: L => .cons rfl (refs_vals L)
/-- sorted(a set of such tuples) -/
def rSortN (K : PySem.W.Frag) (w : World) : List V → Hp → VK → Prop := fun vs H Q => ∃ (a : Addr) (L : List (Addr × NK)) (ds : List PyData), vs = [V.ref a] ∧ H a = some (SetN w a L) ∧ DpAll K H (L.map fun q => V.ref q.1) ds ∧ L.map (·.2) = ds.map nk ∧ AllAlike ds ∧ (∀ d ∈ ds, K8 d) ∧ ds.length < 64 ∧
  ∀ (ys : List V) (fs : List PyData) (p : Addr), H p = none → fs.Perm ds → DpAll K H ys (fs.mergeSort So.dle) → Q (.ref p) (upd H p (.lst ys))
theorem cr_sortN {w : World} (hc : X.calm = true) (hw : X.w = w) (hu : X.A.units + 65 < cLine) : CallR X (.builtin "sorted") (rSortN X.K w) := by
  subst hw
  intro pins s σ H vs us Q I r h
  obtain ⟨a, L, ds, rfl, ha, hd, hn2, hal, hk, hlen, q⟩ := h
  obtain ⟨h0, es, ep, t, T0, k0⟩ := (I.hok a _ ha).1
  rw [Vals.ref1 r]
  have rl := refs_vals L
  have ea := So.each_of I hd rl
  have T : Ts X.w s.heap a L es ep t := T0.keep k0 fun p hp => by
    obtain ⟨ks, e1, e2, e3, e4⟩ := keys_of I hd rl hk
    have es1 : ks.map (·.1) = L.map (·.1) := by
      have z := congrArg (List.map fun v => match v with | Value.ref b => b | _ => 0) e1
      rw [List.map_map, List.map_map] at z
      exact z.symm
    have el : ks = L := pairs_same es1 (by rw [e2, hn2])
    rw [← el] at hp
    exact e3 p hp
  refine sorted_setN (P := X.prog) T (I.ok.hd hc) hu (ea.mono fun _ _ z => z.1) (ea.mono fun _ _ z => z.2) hal hk fun s' p out c fs k g o hp hg pf eo => ?_
  obtain ⟨ys, ry, dy⟩ := So.each_back eo
  have hl2 : ys.length ≤ sizeLine := by
    have z := eo.length
    rw [List.length_mergeSort, pf.length_eq] at z
    rw [ry.length, z, sizeLine_eq]
    omega
  have hn : H p = none := I.hok.fresh hp
  have J : Inv X pins σ (upd H p (.lst ys)) { s with heap := s'.heap, gens := s'.gens, drawn := s'.drawn, toks := s'.toks } :=
    I.call (ch := []) (Un.laid k hp hn) (I.hok.laid k hp ⟨hl2, out, c, ry, hg⟩) (by rw [g]; exact I.bare) (fun _ z => nomatch z)
  have e : s' = { s with heap := s'.heap, gens := s'.gens, drawn := s'.drawn, toks := s'.toks } := by
    cases s'
    cases s
    cases o
    rfl
  rw [e]
  exact ⟨.ref p, _, J, rfl, q ys fs p hn pf dy⟩
end
end Sd
/-! len(set of texts); data in a tuple of data; == and != of data within a block. -/
namespace Sl
open PySem PySem.Spec PyProof.Rows L2 Bx TL Dx
section
variable {X : Cx}
def rLenX (P : Program) (w : World) : List V → Hp → VK → Prop := fun vs H Q => ∃ (a : Addr) (l : List Str), vs = [V.ref a] ∧ H a = some (Sx.SetV P w a l) ∧ l.length < 4000 ∧ Q (.int l.length) H
theorem call_lenX : CallR X (.builtin "len") (rLenX X.prog X.w) := by
  intro pins s σ H vs us Q I r h
  obtain ⟨a, l, rfl, ha, hlen, q⟩ := h
  have R : Sx.SetX X.prog X.w s.heap a l := (I.hok a _ ha).1
  obtain ⟨⟨es, ep, t⟩, ho, F, nd, ri, hl⟩ := R
  rw [Vals.ref1 r]
  have hsz : es.size = l.length := F.sz
  exact call_len_set ho ⟨rfl, rfl, rfl⟩ rfl F.fit (by rw [hsz]; omega) ⟨.int l.length, H, I.tok _, ⟨s.toks + 1, by rw [hsz]⟩, q⟩
def rInT (K : PySem.W.Frag) : R2 := fun x y H Q => ∃ d ds, Dp K H x d ∧ Dp K H y (.tuple ds) ∧ SeqAt.shaped d = true ∧ SeqAt.shaped (.tuple ds) = true ∧ Q (.bl (ds.any fun z => PyData.eqv z d)) H
theorem op_inT {K : PySem.W.Frag} (hK : X.K = K) (hu : X.A.units + 65 < cLine) : OpR X (compareOp .In) (rInT K) := by
  subst hK
  intro pins s σ H x y v u Q I rx ry h
  obtain ⟨d, ds, hd, he, sd, se, q⟩ := h
  obtain ⟨as, r1⟩ := Dp.reads I d x v hd rx
  obtain ⟨bs, r2⟩ := Dp.reads I (.tuple ds) y u he ry
  exact SeqAt.in_tuple_reads r2 r1 (SeqAt.canLay_of_shaped se) (SeqAt.canLay_of_shaped sd) (room_in_shaped sd hu) ⟨.bl _, H, I, rfl, q⟩
theorem op_eqDK {K : PySem.W.Frag} (hK : X.K = K) (hu : X.A.units + 64 < cLine) : OpR X (compareOp .Eq) (rEqD K) := by
  subst hK
  exact op_eqD hu
theorem op_neDK {K : PySem.W.Frag} (hK : X.K = K) (hu : X.A.units + 64 < cLine) : OpR X (compareOp .NotEq) (rNeD K) := by
  subst hK
  exact op_neD hu
end
end Sl
/-! data not in a tuple of data. -/
namespace Sl
open PySem PySem.Spec PyProof.Rows L2 Bx TL Dx
section
variable {X : Cx}
def rNotInT (K : PySem.W.Frag) : R2 := fun x y H Q => ∃ d ds, Dp K H x d ∧ Dp K H y (.tuple ds) ∧ SeqAt.shaped d = true ∧ SeqAt.shaped (.tuple ds) = true ∧ Q (.bl (!ds.any fun z => PyData.eqv z d)) H
theorem op_notInT {K : PySem.W.Frag} (hK : X.K = K) (hu : X.A.units + 65 < cLine) : OpR X (compareOp .NotIn) (rNotInT K) := by
  subst hK
  intro pins s σ H x y v u Q I rx ry h
  obtain ⟨d, ds, hd, he, sd, se, q⟩ := h
  obtain ⟨as, one⟩ := Dp.reads I d x v hd rx
  obtain ⟨bs, two⟩ := Dp.reads I (.tuple ds) y u he ry
  exact SeqAt.notIn_tuple_reads two one (SeqAt.canLay_of_shaped se) (SeqAt.canLay_of_shaped sd) (room_in_shaped sd hu) ⟨.bl _, H, I, rfl, q⟩
end
end Sl
/-! sorted(a list of tuples of alike data), the empty tuple among them. -/
namespace Sd
open PySem PySem.Spec PyProof.Rows L2 Bx TL Dx PySem.W PySem.Calls
section
variable {P : Program} {w : World} {A : Around} {E : Value → Shared → Prop} {s : Shared} {vs : List Value} {bs : List PyData} {R : Value → PyData → Prop}
theorem sorted_tups {l : Addr} {Q : Value → Shared → Prop} (hl : s.heap.IsList l vs.toArray) (e : EachIs R vs bs) (er : EachIs (fun v b => ∃ as, PySem.Reads s.heap v b as) vs bs) (hal : AllAlike bs) (ht : ∀ b ∈ bs, ∃ xs, b = .tuple xs) (hL : bs.length ≤ sizeLine)
    (hu : ∀ b, b ∈ bs → A.units + 2 + b.depth < cLine) (h : ∀ out, out.length = bs.length → EachIs R out (bs.mergeSort (dataLe false id)) → Q (.ref (s.heap.objs.size + 1)) { s with heap := sortedAll s.heap vs (List.toArray out) }) :
    wpAny (model P w) A (call (.builtin "sorted") [.ref l]) Q E s := by
  have em : bs.map id = bs := List.map_id bs
  have kept : EachIs (fun v b => ∃ as, PySem.Reads (sortingHeap (copyHeap s.heap vs) (s.heap.objs.size + 1) vs) v (id b) as) vs bs := er.mono fun _ _ ⟨as, r⟩ => ⟨as, PyProof.Rows.Reads.keeps (fun _ _ => sorting_copy_old) r⟩
  have here : SortsAt P w A.in1.in1 { s with heap := sortingHeap (copyHeap s.heap vs) (s.heap.objs.size + 1) vs } (dataKind (sortingHeap (copyHeap s.heap vs) (s.heap.objs.size + 1) vs) (bs.map id)) vs := by
    rw [em]
    exact sorts_tups (s := { s with heap := sortingHeap (copyHeap s.heap vs) (s.heap.objs.size + 1) vs }) kept hal ht fun d hd => hu d hd
  exact sorted_vals hl here (by rw [e.length]; exact hL) (h _ (by rw [sortVals_length false rfl]; exact e.length) (sortVals_data (enc := id) false e kept (by rw [em]; exact hal)))
end
section
variable {X : Cx}
def rSortT (K : PySem.W.Frag) : List V → Hp → VK → Prop := fun xs H Q => ∃ (a : Addr) (vs : List V) (ds : List PyData), xs = [V.ref a] ∧ SqL K H a vs ∧ DpAll K H vs ds ∧ AllAlike ds ∧ (∀ d ∈ ds, ∃ xs, d = .tuple xs) ∧ ds.length ≤ sizeLine ∧ (∀ d ∈ ds, d.depth ≤ 60) ∧
  ∀ (ys : List V) (p : Addr), H p = none → DpAll K H ys (ds.mergeSort So.dle) → Q (.ref p) (upd H p (.lst ys))
theorem cr_sortT (hu : X.A.units + 65 < cLine) : CallR X (.builtin "sorted") (rSortT X.K) := by
  intro pins s σ H xs us Q I r h
  obtain ⟨a, vs, ds, rfl, hs, hd, hal, hso, hz, hdp, q⟩ := h
  cases r with
  | cons ra rb =>
    cases rb
    cases ra
    obtain ⟨its, rv, hl, _⟩ := I.list hs
    have ea := So.each_of I hd rv
    refine sorted_tups (bs := ds) (R := fun u d => ∃ v, Dp X.K H v d ∧ L2.RelV v u) hl.isList (ea.mono fun _ _ z => z.1) (ea.mono fun _ _ z => z.2) hal hso hz (fun d hd => ?_) fun out hlen eo => ?_
    · have := hdp d hd
      omega
    · obtain ⟨ys, ry, dy⟩ := So.each_back eo
      obtain ⟨ep, he'⟩ := PyProof.Rows.sortedAll_at s.heap its out.toArray
      have hyl : ys.length = ds.length := by rw [ry.length, hlen]
      exact ⟨.ref _, upd H (s.heap.objs.size + 1) (.lst ys), I.laid (t' := s.toks) (fun _ _ => PyProof.Rows.sortedAll_old) (Nat.le_succ _) ⟨by rw [hyl]; exact hz, out, ep, ry, by simpa using he'⟩, rfl, q ys _ (I.hok.fresh (Nat.le_succ _)) dy⟩
end
end Sd
namespace K08
local macro_rules | `(tactic| walk_at "rd") => `(tactic| repeat (first | refine ⟨rfl, ?_⟩ | refine ⟨_, rfl, ?_⟩ | refine ⟨_, _, rfl, rfl, ?_⟩ | refine ⟨⟨_, rfl⟩, ?_⟩))
open PySem PySem.Spec PyProof.Rows L2 Bx TL Dx Zx Ow Sup NdefX Px
def topS (i : Nat) : Stmt := PySem.Challenge.pw_shadowlinks_k08_clauses_and_cuts.main.body.getD i (.Pass ⟨0, 0, 0, 0⟩)
abbrev s_contains : Stmt := topS 2
abbrev n_contains : List Str := ["first", "second", "literal"]
theorem sc_contains : FnScope n_contains ["first", "second"] (defScope s_contains) := ⟨rfl, rfl, rfl, by decide +kernel, rfl, by decide +kernel, by decide +kernel⟩
abbrev s_resolvent : Stmt := topS 3
abbrev n_resolvent : List Str := ["first", "second", "name", "kept", "other", "literals", "literal", "own", "_"]
theorem sc_resolvent : FnScope n_resolvent ["first", "second", "name"] (defScope s_resolvent) := ⟨rfl, rfl, rfl, by decide +kernel, rfl, by decide +kernel, by decide +kernel⟩
abbrev s_least_clauses : Stmt := topS 4
abbrev n_least_clauses : List Str := ["clauses", "single", "clause"]
theorem sc_least_clauses : FnScope n_least_clauses ["clauses"] (defScope s_least_clauses) := ⟨rfl, rfl, rfl, by decide +kernel, rfl, by decide +kernel, by decide +kernel⟩
abbrev s__is_least : Stmt := topS 5
abbrev n__is_least : List Str := ["clause", "clauses", "other"]
theorem sc__is_least : FnScope n__is_least ["clause", "clauses"] (defScope s__is_least) := ⟨rfl, rfl, rfl, by decide +kernel, rfl, by decide +kernel, by decide +kernel⟩
abbrev s_derive_lines : Stmt := topS 7
abbrev n_derive_lines : List Str := ["clauses", "certificate", "derived", "line", "clause"]
theorem sc_derive_lines : FnScope n_derive_lines ["clauses", "certificate"] (defScope s_derive_lines) := ⟨rfl, rfl, rfl, by decide +kernel, rfl, by decide +kernel, by decide +kernel⟩
abbrev s__derived : Stmt := topS 8
abbrev n__derived : List Str := ["clauses", "before", "line", "first", "second", "_", "i", "j", "name"]
theorem sc__derived : FnScope n__derived ["clauses", "before", "line"] (defScope s__derived) := ⟨rfl, rfl, rfl, by decide +kernel, rfl, by decide +kernel, by decide +kernel⟩
abbrev s__clause_at : Stmt := topS 9
abbrev n__clause_at : List Str := ["clauses", "index"]
theorem sc__clause_at : FnScope n__clause_at ["clauses", "index"] (defScope s__clause_at) := ⟨rfl, rfl, rfl, by decide +kernel, rfl, by decide +kernel, by decide +kernel⟩
abbrev s_is_ascending : Stmt := topS 13
abbrev n_is_ascending : List Str := ["values"]
theorem sc_is_ascending : FnScope n_is_ascending ["values"] (defScope s_is_ascending) := ⟨rfl, rfl, rfl, by decide +kernel, rfl, by decide +kernel, by decide +kernel⟩
abbrev s_Kind_is_valid : Stmt := inClass (topS 11) 2
abbrev n_Kind_is_valid : List Str := ["self", "names", "constraint", "name"]
theorem sc_Kind_is_valid : FnScope n_Kind_is_valid ["self", "names", "constraint"] (defScope s_Kind_is_valid) := ⟨rfl, rfl, rfl, by decide +kernel, rfl, by decide +kernel, by decide +kernel⟩
abbrev s_Bits_names_in : Stmt := inClass (topS 15) 1
abbrev n_Bits_names_in : List Str := ["self", "constraint", "name", "_"]
theorem sc_Bits_names_in : FnScope n_Bits_names_in ["self", "constraint"] (defScope s_Bits_names_in) := ⟨rfl, rfl, rfl, by decide +kernel, rfl, by decide +kernel, by decide +kernel⟩
abbrev s_Bits_is_valid : Stmt := inClass (topS 15) 2
abbrev n_Bits_is_valid : List Str := ["self", "names", "constraint", "__class__", "_", "sign"]
theorem ns_Bits_is_valid : NScope n_Bits_is_valid ["self", "names", "constraint"] [("__class__" : Str)] (defScope s_Bits_is_valid) := nscope_by (by decide +kernel)
abbrev s_Bits_holds : Stmt := inClass (topS 15) 3
abbrev n_Bits_holds : List Str := ["self", "constraint", "assignment", "name", "sign"]
theorem sc_Bits_holds : FnScope n_Bits_holds ["self", "constraint", "assignment"] (defScope s_Bits_holds) := ⟨rfl, rfl, rfl, by decide +kernel, rfl, by decide +kernel, by decide +kernel⟩
abbrev s__law_source : Stmt := topS 21
abbrev n__law_source : List Str := ["_law_script", "_law_k", "_law_number"]
theorem sc__law_source : FnScope n__law_source ["_law_script", "_law_k"] (defScope s__law_source) := ⟨rfl, rfl, rfl, by decide +kernel, rfl, by decide +kernel, by decide +kernel⟩
abbrev s__law_draw : Stmt := topS 22
abbrev n__law_draw : List Str := ["_law_source_here", "_law_limit", "_law_number", "_law_mixed"]
theorem sc__law_draw : FnScope n__law_draw ["_law_source_here", "_law_limit"] (defScope s__law_draw) := ⟨rfl, rfl, rfl, by decide +kernel, rfl, by decide +kernel, by decide +kernel⟩
abbrev s__law_names : Stmt := topS 23
abbrev n__law_names : List Str := ["_law_source_here", "_law_most", "_law_names_here", "_law_k", "_law_text", "_law_j", "_law_choice"]
theorem sc__law_names : FnScope n__law_names ["_law_source_here", "_law_most"] (defScope s__law_names) := ⟨rfl, rfl, rfl, by decide +kernel, rfl, by decide +kernel, by decide +kernel⟩
abbrev s__law_clause : Stmt := topS 24
abbrev n__law_clause : List Str := ["_law_source_here", "_law_names_here", "_law_literals", "_law_name", "_law_sign"]
theorem sc__law_clause : FnScope n__law_clause ["_law_source_here", "_law_names_here"] (defScope s__law_clause) := ⟨rfl, rfl, rfl, by decide +kernel, rfl, by decide +kernel, by decide +kernel⟩
abbrev s__law_clauses : Stmt := topS 25
abbrev n__law_clauses : List Str := ["_law_source_here", "_law_names_here", "_law_clauses_here", "_law_k", "_law_clause_here"]
theorem sc__law_clauses : FnScope n__law_clauses ["_law_source_here", "_law_names_here"] (defScope s__law_clauses) := ⟨rfl, rfl, rfl, by decide +kernel, rfl, by decide +kernel, by decide +kernel⟩
abbrev s__law_within : Stmt := topS 26
abbrev n__law_within : List Str := ["_law_first", "_law_second", "_law_literal"]
theorem sc__law_within : FnScope n__law_within ["_law_first", "_law_second"] (defScope s__law_within) := ⟨rfl, rfl, rfl, by decide +kernel, rfl, by decide +kernel, by decide +kernel⟩
abbrev s__law_cut : Stmt := topS 27
abbrev n__law_cut : List Str := ["_law_first", "_law_second", "_law_name", "_law_found", "_law_literal"]
theorem sc__law_cut : FnScope n__law_cut ["_law_first", "_law_second", "_law_name"] (defScope s__law_cut) := ⟨rfl, rfl, rfl, by decide +kernel, rfl, by decide +kernel, by decide +kernel⟩
abbrev s__law_step : Stmt := topS 28
abbrev n__law_step : List Str := ["_law_clauses_here", "_law_found", "_law_step_here"]
theorem sc__law_step : FnScope n__law_step ["_law_clauses_here", "_law_found", "_law_step_here"] (defScope s__law_step) := ⟨rfl, rfl, rfl, by decide +kernel, rfl, by decide +kernel, by decide +kernel⟩
abbrev s__law_replayed : Stmt := topS 29
abbrev n__law_replayed : List Str := ["_law_clauses_here", "_law_steps_here", "_law_found", "_law_step_here", "_law_clause_here"]
theorem sc__law_replayed : FnScope n__law_replayed ["_law_clauses_here", "_law_steps_here"] (defScope s__law_replayed) := ⟨rfl, rfl, rfl, by decide +kernel, rfl, by decide +kernel, by decide +kernel⟩
abbrev s__law_steps : Stmt := topS 30
abbrev n__law_steps : List Str := ["_law_source_here", "_law_names_here", "_law_clauses_here", "_law_steps_here", "_law_found", "_law_k", "_law_cuts", "_law_i", "_law_step_here", "_law_j", "_law_name"]
theorem sc__law_steps : FnScope n__law_steps ["_law_source_here", "_law_names_here", "_law_clauses_here"] (defScope s__law_steps) := ⟨rfl, rfl, rfl, by decide +kernel, rfl, by decide +kernel, by decide +kernel⟩
abbrev s__law_spoilt : Stmt := topS 31
abbrev n__law_spoilt : List Str := ["_law_source_here", "_law_names_here", "_law_clauses_here", "_law_steps_here", "_law_at", "_law_step_here", "_law_old", "_law_others", "_law_name"]
theorem sc__law_spoilt : FnScope n__law_spoilt ["_law_source_here", "_law_names_here", "_law_clauses_here", "_law_steps_here"] (defScope s__law_spoilt) := ⟨rfl, rfl, rfl, by decide +kernel, rfl, by decide +kernel, by decide +kernel⟩
abbrev s__law_is_bool : Stmt := topS 32
abbrev n__law_is_bool : List Str := ["_law_actual", "_law_expected"]
theorem sc__law_is_bool : FnScope n__law_is_bool ["_law_actual", "_law_expected"] (defScope s__law_is_bool) := ⟨rfl, rfl, rfl, by decide +kernel, rfl, by decide +kernel, by decide +kernel⟩
abbrev s__law_pairs_right : Stmt := topS 33
abbrev n__law_pairs_right : List Str := ["_law_source_here", "_law_names_here", "_law_name", "_law_first", "_law_second", "_law_expected", "_law_actual", "_law_literal"]
theorem sc__law_pairs_right : FnScope n__law_pairs_right ["_law_source_here", "_law_names_here"] (defScope s__law_pairs_right) := ⟨rfl, rfl, rfl, by decide +kernel, rfl, by decide +kernel, by decide +kernel⟩
abbrev s__law_least_right : Stmt := topS 34
abbrev n__law_least_right : List Str := ["_law_clauses_here", "_law_expected", "_law_clause_here", "_law_passed", "_law_actual", "_law_others", "_law_other"]
theorem sc__law_least_right : FnScope n__law_least_right ["_law_clauses_here"] (defScope s__law_least_right) := ⟨rfl, rfl, rfl, by decide +kernel, rfl, by decide +kernel, by decide +kernel⟩
abbrev s__law_methods_right : Stmt := topS 35
abbrev n__law_methods_right : List Str := ["_law_source_here", "_law_names_here", "_law_clause_here", "_law_k", "_law_gone", "_law_fewer", "_law_twice", "_law_wrong", "_law_bad", "_law_assignment", "_law_name", "_law_kept", "_law_literal"]
theorem sc__law_methods_right : FnScope n__law_methods_right ["_law_source_here", "_law_names_here", "_law_clause_here"] (defScope s__law_methods_right) := ⟨rfl, rfl, rfl, by decide +kernel, rfl, by decide +kernel, by decide +kernel⟩
abbrev s_law : Stmt := topS 36
abbrev n_law : List Str := ["_law_script", "_law_source_here", "_law_names_here", "_law_clauses_here", "_law_steps_here", "_law_expected", "_law_actual", "_law_clause_here"]
theorem sc_law : FnScope n_law ["_law_script"] (defScope s_law) := ⟨rfl, rfl, rfl, by decide +kernel, rfl, by decide +kernel, by decide +kernel⟩
/-! ### literals, clauses as data -/
abbrev Lit := Str × Int
abbrev Cl := List Lit
def litD (l : Lit) : PyData := .tuple [.str l.1, .int l.2]
def clD (c : Cl) : PyData := .tuple (c.map litD)
def OkC (c : Cl) : Prop := ∀ l ∈ c, PyData.strOk l.1 = true
theorem eqv_lit (x y : Lit) : PyData.eqv (litD x) (litD y) = decide (x = y) := by
  obtain ⟨a, i⟩ := x
  obtain ⟨b, j⟩ := y
  show ((a == b) && ((i == j) && true)) = _
  rw [Bool.and_true, Bool.eq_iff_iff, Bool.and_eq_true, beq_iff_eq, beq_iff_eq, decide_eq_true_iff]
  exact ⟨fun h => by rw [h.1, h.2], fun h => by cases h; exact ⟨rfl, rfl⟩⟩
theorem eqv_lits : ∀ c d : Cl, PyData.eqvAll (c.map litD) (d.map litD) = decide (c = d)
  | [], [] => rfl
  | [], _ :: _ => rfl
  | _ :: _, [] => rfl
  | x :: c, y :: d => by
    show (PyData.eqv (litD x) (litD y) && PyData.eqvAll (c.map litD) (d.map litD)) = _
    rw [eqv_lit, eqv_lits c d, Bool.eq_iff_iff, Bool.and_eq_true, decide_eq_true_iff, decide_eq_true_iff, decide_eq_true_iff]
    exact ⟨fun h => by rw [h.1, h.2], fun h => by cases h; exact ⟨rfl, rfl⟩⟩
theorem eqv_cl (c d : Cl) : PyData.eqv (clD c) (clD d) = decide (c = d) := eqv_lits c d
theorem any_lit (c : Cl) (l : Lit) : ((c.map litD).any fun z => PyData.eqv z (litD l)) = decide (l ∈ c) := by
  rw [List.any_map, Bool.eq_iff_iff, List.any_eq_true, decide_eq_true_iff]
  refine ⟨fun ⟨x, h1, h2⟩ => ?_, fun h => ⟨l, h, ?_⟩⟩
  · have z : PyData.eqv (litD x) (litD l) = true := h2
    rw [eqv_lit, decide_eq_true_iff] at z
    rw [← z]
    exact h1
  · show PyData.eqv (litD l) (litD l) = true
    rw [eqv_lit, decide_eq_true_iff]
theorem lay_lit {l : Lit} (h : PyData.strOk l.1 = true) : PyData.canLay0 (litD l) = true := by
  show (PyData.strOk l.1 && (true && true)) = true
  rw [h]
  rfl
theorem lay_lits : ∀ {c : Cl}, OkC c → PyData.canLayAll0 (c.map litD) = true
  | [], _ => rfl
  | l :: c, h => by
    show (PyData.canLay0 (litD l) && PyData.canLayAll0 (c.map litD)) = true
    rw [lay_lit (h l (List.mem_cons_self ..)), lay_lits fun x hx => h x (List.mem_cons_of_mem _ hx)]
    rfl
theorem dep_lit (l : Lit) : (litD l).depth = 1 := rfl
theorem dep_lits : ∀ c : Cl, PyData.depthAll (c.map litD) ≤ 1
  | [] => Nat.zero_le _
  | l :: c => by
    have ih := dep_lits c
    show max (litD l).depth (PyData.depthAll (c.map litD)) ≤ 1
    rw [dep_lit]
    omega
theorem dep_cl (c : Cl) : (clD c).depth ≤ 2 := by
  have z := dep_lits c
  show PyData.depthAll (c.map litD) + 1 ≤ 2
  omega
theorem sh_lit {l : Lit} (h : PyData.strOk l.1 = true) : SeqAt.shaped (litD l) = true := by
  unfold SeqAt.shaped
  rw [lay_lit h, Bool.true_and, decide_eq_true_iff, dep_lit]
  decide
theorem sh_cl {c : Cl} (h : OkC c) : SeqAt.shaped (clD c) = true := by
  unfold SeqAt.shaped
  have z := dep_cl c
  have e : PyData.canLay0 (clD c) = true := lay_lits h
  rw [e, Bool.true_and, decide_eq_true_iff]
  omega
theorem lit_dp {K : PySem.W.Frag} {H : Hp} {v : V} {l : Lit} (h : Dp K H v (litD l)) : ∃ p, v = .ref p ∧ SqT K H p [.str l.1, .int l.2] := by
  obtain ⟨p, xs, rfl, hs, ha⟩ := dp_tup h
  cases ha with
  | cons h1 ha =>
    cases ha with
    | cons h2 ha =>
      cases ha
      cases h1
      cases h2
      exact ⟨p, rfl, hs⟩
theorem dp_lit {K : PySem.W.Frag} {H : Hp} {p : Addr} {l : Lit} (h : SqT K H p [.str l.1, .int l.2]) : Dp K H (.ref p) (litD l) := .tup h (.cons (.str _) (da_one (.int _)))
theorem da_atM {K : PySem.W.Frag} {H : Hp} {α : Type} {f : α → PyData} : ∀ {xs : List V} {cs : List α}, DpAll K H xs (cs.map f) → ∀ {i : Nat} {v : V}, xs[i]? = some v → ∃ c, cs[i]? = some c ∧ Dp K H v (f c)
  | _, [], h, i, v, e => by
    cases h
    cases e
  | _, c :: cs, h, i, v, e => by
    cases h with
    | cons h1 h2 =>
      cases i with
      | zero =>
        cases e
        exact ⟨c, rfl, h1⟩
      | succ i => exact da_atM h2 e
mutual
def tupD : PyData → Bool
  | .str _ => true
  | .int _ => true
  | .tuple ds => tupAll ds
  | _ => false
def tupAll : List PyData → Bool
  | [] => true
  | d :: ds => tupD d && tupAll ds
end
def Tk (K : PySem.W.Frag) (H H' : Hp) : Prop := ∀ a xs, SqT K H a xs → SqT K H' a xs
theorem tk_same {K : PySem.W.Frag} {H H' : Hp} (s : Same H H') : Tk K H H' := fun _ _ h => Bx.Same.tup s h
theorem Tk.trans {K : PySem.W.Frag} {H H1 H2 : Hp} (a : Tk K H H1) (b : Tk K H1 H2) : Tk K H H2 := fun _ _ h => b _ _ (a _ _ h)
theorem tk_lst {K : PySem.W.Frag} {H : Hp} {p : Addr} {ys : List V} {o : HO} (hp : H p = some (.lst ys)) : Tk K H (upd H p o) := fun a xs h => by
  rcases h with (h | ⟨u, h⟩) | h
  · exact .inl (.inl (by rw [upd_ne fun z => by rw [z, hp] at h; cases h]; exact h))
  · exact .inl (.inr ⟨u, by rw [upd_ne fun z => by rw [z, hp] at h; cases h]; exact h⟩)
  · exact .inr h
mutual
theorem dp_tk {K : PySem.W.Frag} {H H' : Hp} (tk : Tk K H H') : ∀ (d : PyData) (v : V), tupD d = true → Dp K H v d → Dp K H' v d
  | .str _, _, _, h => by
    cases h
    exact .str _
  | .int _, _, _, h => by
    cases h
    exact .int _
  | .tuple ds, _, e, h => by
    cases h with
    | tup hs ha => exact .tup (tk _ _ hs) (da_tk tk ds _ e ha)
  | .none, _, e, _ => by cases e
  | .bool _, _, e, _ => by cases e
  | .list _, _, e, _ => by cases e
  | .dict _, _, e, _ => by cases e
theorem da_tk {K : PySem.W.Frag} {H H' : Hp} (tk : Tk K H H') : ∀ (ds : List PyData) (vs : List V), tupAll ds = true → DpAll K H vs ds → DpAll K H' vs ds
  | [], _, _, h => by
    cases h
    exact .nil
  | d :: ds, _, e, h => by
    have e2 : (tupD d && tupAll ds) = true := e
    rw [Bool.and_eq_true] at e2
    cases h with
    | cons h1 h2 => exact .cons (dp_tk tk d _ e2.1 h1) (da_tk tk ds _ e2.2 h2)
end
theorem tup_lits : ∀ c : Cl, tupAll (c.map litD) = true
  | [] => rfl
  | l :: c => by
    show (tupD (litD l) && tupAll (c.map litD)) = true
    rw [tup_lits c]
    rfl
theorem tup_cls : ∀ cs : List Cl, tupAll (cs.map clD) = true
  | [] => rfl
  | c :: cs => by
    show (tupAll (c.map litD) && tupAll (cs.map clD)) = true
    rw [tup_cls cs, tup_lits c]
    rfl
section
variable {P : Program} {w : World} {K : PySem.W.Frag} {mg : Str → Option Value} {base : Heap}
/-! ### contains -/
def inC (c d : Cl) : Bool := d.all fun l => decide (l ∈ c)
@[irreducible] def spContains (K : PySem.W.Frag) : Sp := fun vs H Q _ => ∃ (p q : Addr) (c d : Cl), vs = [.ref p, .ref q] ∧ Dp K H (.ref p) (clD c) ∧ Dp K H (.ref q) (clD d) ∧ OkC c ∧ OkC d ∧ d.length ≤ 1000 ∧ ∀ H', Same H H' → Q (.bl (inC c d)) H'
theorem ok_contains {f : Addr} {fd : FuncData} (F : Fun K "contains" "contains" s_contains f fd) (m_all : mg "all" = none) : FnOk P w K mg base CX0 1 f fd ["first", "second"] (spContains K) := by
  refine F.ok sc_contains (fun vs H Q E h => ?_) (fun cdv A outer s H vs Q E hr h => ?_)
  · unfold spContains at h
    obtain ⟨p, q, c, d, rfl, _⟩ := h
    rfl
  · unfold spContains at h
    obtain ⟨p, q, c, d, rfl, hc, hd, oc, od, hdl, qq⟩ := h
    refine ⟨_, (pss_one (ps_ret (pe_callB (id := "all") (cr_all rfl) (by rfl) m_all (by decide +kernel) (pa_cons (pe_lc (own := [("literal", 2)]) (tt := tYes) rfl sc_contains.nd (pi_tup (pv 1)) (blkOk_by (N := n_contains) (sc := defScope s_contains) (by decide +kernel)) (fun _ _ _ _ _ => pg_name (i := 2) sc_contains.nd rfl (Or.inl rfl)) (fun _ _ _ _ _ => pts_nil) (fun _ _ _ _ _ => (pe_cmpR (Sl.op_inT (K := K) rfl (room hr)) (pv 2) (pv 0) (by rfl)))) pa_nil)))), ?_⟩
    walk_at "rd"
    obtain ⟨q', xs, eq, ht, ha⟩ := dp_tup hd
    cases eq
    have xl : xs.length = d.length := by rw [da_len ha, List.length_map]
    refine ⟨⟨_, ht⟩, fun D hD => ?_⟩
    refine lc_it walk_tup (fun i H' => H' = upd H D (.lst ((d.take i).map fun l => V.bl (decide (l ∈ c))))) rfl (fun i H' _ e => e ▸ Bx.Same.tup (same_new hD) ht) ?_ ?_
    · rintro i v H2 H3 hi rfl ⟨rfl, hx⟩
      have sD := same_new hD (o := .lst ((d.take i).map fun l => V.bl (decide (l ∈ c))))
      obtain ⟨l, hl, dl⟩ := da_atM ha hx
      have ol := od l (List.mem_of_getElem? hl)
      refine ⟨rfl, ?_⟩
      walk_at "rd"
      refine ⟨litD l, c.map litD, dp_same sD dl, dp_same sD hc, sh_lit ol, sh_cl oc, ?_⟩
      rw [any_lit]
      refine ⟨_, upd_same, ?_, ?_⟩
      · rw [List.length_map]
        exact szl (Nat.lt_of_le_of_lt (List.length_take_le' i d) (by omega))
      · rw [upd_upd, List.take_add_one, hl, List.map_append]
        rfl
    rintro H2 rfl
    have sM := same_new hD (o := .lst ((d.take xs.length).map fun l => V.bl (decide (l ∈ c))))
    have hM : (upd H D (.lst ((d.take xs.length).map fun l => V.bl (decide (l ∈ c))))) D = some (.lst ((d.map fun l => decide (l ∈ c)).map V.bl)) := by
      rw [upd_same, xl, List.take_length, List.map_map]
      rfl
    generalize upd H D (.lst ((d.take xs.length).map fun l => V.bl (decide (l ∈ c)))) = H2 at sM hM ⊢
    refine ⟨_, d.map (fun l => decide (l ∈ c)), rfl, sq hM, ?_⟩
    have e2 : (d.map fun l => decide (l ∈ c)).all id = inC c d := by
      unfold inC
      rw [List.all_map]
      rfl
    rw [e2]
    exact qq _ sM
end
end K08
namespace K08
local macro_rules | `(tactic| walk_at "rd") => `(tactic| repeat (first | refine ⟨rfl, ?_⟩ | refine ⟨_, rfl, ?_⟩ | refine ⟨_, _, rfl, rfl, ?_⟩ | refine ⟨⟨_, rfl⟩, ?_⟩))
open PySem PySem.Spec PyProof.Rows L2 Bx TL Dx Zx Ow Sup NdefX Px
/-! ### what sorting and sets ask of literals and clauses -/
theorem lit_inj {x y : Lit} (h : litD x = litD y) : x = y := of_decide_eq_true (by rw [← eqv_lit, h, eqv_lit, decide_eq_true_iff])
theorem cl_inj {c d : Cl} (h : clD c = clD d) : c = d := of_decide_eq_true (by rw [← eqv_cl, h, eqv_cl, decide_eq_true_iff])
theorem alike_lit (x y : Lit) : PySem.W.alike (litD x) (litD y) = true := rfl
theorem alike_lits : ∀ c d : Cl, PySem.W.alikeAll (c.map litD) (d.map litD) = true
  | [], _ => by simp [PySem.W.alikeAll]
  | _ :: _, [] => by simp [PySem.W.alikeAll]
  | x :: c, y :: d => by
    show PySem.W.alikeAll (litD x :: c.map litD) (litD y :: d.map litD) = true
    rw [PySem.W.alikeAll, alike_lits c d, alike_lit]
    rfl
theorem alike_cl (c d : Cl) : PySem.W.alike (clD c) (clD d) = true := by
  show PySem.W.alike (.tuple (c.map litD)) (.tuple (d.map litD)) = true
  rw [PySem.W.alike, alike_lits]
theorem all_alike {α : Type} {f : α → PyData} (h : ∀ x y, PySem.W.alike (f x) (f y) = true) (l : List α) : PySem.W.AllAlike (l.map f) := by
  intro d hd d' hd'
  obtain ⟨x, _, rfl⟩ := List.mem_map.mp hd
  obtain ⟨y, _, rfl⟩ := List.mem_map.mp hd'
  exact h x y
theorem k8_lit (l : Lit) : Sd.K8 (litD l) := ⟨⟨_, rfl⟩, rfl, (by show 1 ≤ 8; decide), (by show 1 ≤ 60; decide)⟩
theorem plain_lits : ∀ c : Cl, Sd.plains (c.map litD) = true
  | [] => rfl
  | l :: c => by
    show (Sd.plain (litD l) && Sd.plains (c.map litD)) = true
    rw [plain_lits c]
    rfl
theorem nk_lits : ∀ c : Cl, NestedKey.depthAll (Sd.nks (c.map litD)) ≤ 1
  | [] => Nat.zero_le _
  | l :: c => by
    have ih := nk_lits c
    show max (Sd.nk (litD l)).depth (NestedKey.depthAll (Sd.nks (c.map litD))) ≤ 1
    have e : (Sd.nk (litD l)).depth = 1 := rfl
    omega
theorem k8_cl (c : Cl) : Sd.K8 (clD c) := by
  have z1 := nk_lits c
  have z2 := dep_cl c
  refine ⟨⟨_, rfl⟩, plain_lits c, ?_, by omega⟩
  show NestedKey.depthAll (Sd.nks (c.map litD)) + 1 ≤ 8
  omega
theorem dle_total : PySem.W.TotalLe So.dle := by
  unfold So.dle PySem.W.dataLe
  exact PySem.W.sortLe_total _ _ _
theorem unmap {α : Type} {f : α → PyData} : ∀ {l : List PyData}, (∀ d ∈ l, ∃ x, f x = d) → ∃ m : List α, l = m.map f
  | [], _ => ⟨[], rfl⟩
  | d :: l, h => by
    obtain ⟨x, rfl⟩ := h d (List.mem_cons_self ..)
    obtain ⟨m, rfl⟩ := unmap fun e he => h e (List.mem_cons_of_mem _ he)
    exact ⟨x :: m, rfl⟩
theorem perm_unmap {α : Type} {f : α → PyData} (inj : ∀ x y, f x = f y → x = y) {l m : List α} (h : (l.map f).Perm (m.map f)) : l.Perm m := by
  classical
  refine List.perm_iff_count.mpr fun x => ?_
  have cnt : ∀ k : List α, (k.map f).count (f x) = k.count x := fun k => by
    rw [List.count_eq_countP, List.countP_map, List.count_eq_countP]
    refine List.countP_congr fun y _ => ?_
    simp only [Function.comp, beq_iff_eq]
    exact ⟨fun e => inj _ _ e, fun e => by rw [e]⟩
  rw [← cnt l, ← cnt m]
  exact List.perm_iff_count.mp h (f x)
section
variable {P : Program} {w : World} {K : PySem.W.Frag} {mg : Str → Option Value} {base : Heap}
/-! ### least clauses -/
def leastB (cs : List Cl) (c : Cl) : Bool := !cs.any fun d => decide (d ≠ c) && inC c d
@[irreducible] def spIsLeast (K : PySem.W.Frag) : Sp := fun vs H Q _ => ∃ (p q : Addr) (c : Cl) (xs : List V) (cs : List Cl), vs = [.ref p, .ref q] ∧ Dp K H (.ref p) (clD c) ∧ SqL K H q xs ∧ DpAll K H xs (cs.map clD) ∧ OkC c ∧ (∀ d ∈ cs, OkC d ∧ d.length ≤ 1000) ∧ cs.length ≤ 1000 ∧ ∀ H', Same H H' → Q (.bl (leastB cs c)) H'
theorem ok_is_least {f : Addr} {fd : FuncData} (F : Fun K "_is_least" "_is_least" s__is_least f fd) (m_any : mg "any" = none) (C_contains : Cal P w K mg base "contains" 1 ["first", "second"] (spContains K)) : FnOk P w K mg base CX0 2 f fd ["clause", "clauses"] (spIsLeast K) := by
  refine F.ok sc__is_least (fun vs H Q E h => ?_) (fun cdv A outer s H vs Q E hr h => ?_)
  · unfold spIsLeast at h
    obtain ⟨p, q, c, xs, cs, rfl, _⟩ := h
    rfl
  · unfold spIsLeast at h
    obtain ⟨p, q, c, xs, cs, rfl, hc, hq, hd, oc, od, hl, qq⟩ := h
    refine ⟨_, (pss_one (ps_ret (pe_not (pe_callB (id := "any") (cr_any rfl) (by rfl) m_any (by decide +kernel) (pa_cons (pe_lc (own := [("other", 2)]) rfl sc__is_least.nd (pi_list (pv 1)) (blkOk_by (N := n__is_least) (sc := defScope s__is_least) (by decide +kernel)) (fun _ _ _ _ _ => pg_name (i := 2) sc__is_least.nd rfl (Or.inl rfl)) (fun _ _ _ _ _ => pts_one (pt_cmpR (Sl.op_neDK (K := K) rfl hr.units) (pv 2) (pv 0) (nomark _))) (fun _ _ _ _ _ => (pe_cal C_contains (hr.mono (by decide)) (pa_cons (pv 0) (pa_cons (pv 2) pa_nil))))) pa_nil))))), ?_⟩
    walk_at "rd"
    have xl : xs.length = cs.length := by rw [da_len hd, List.length_map]
    refine ⟨⟨_, hq⟩, fun D hD => ?_⟩
    refine lc_it walk_list (fun i H' => Same H H' ∧ H' D = some (.lst (((cs.take i).filter fun d => decide (d ≠ c)).map fun d => V.bl (inC c d)))) ⟨same_new hD, upd_same⟩ (fun i H' _ h => Same.seq h.1 hq) ?_ ?_
    · rintro i v H2 H3 hi ⟨s2, hM⟩ ⟨rfl, hx⟩
      obtain ⟨d, hd1, dd⟩ := da_atM hd hx
      obtain ⟨od1, od2⟩ := od d (List.mem_of_getElem? hd1)
      refine ⟨rfl, ?_⟩
      have d2 := dp_same s2 dd
      have c2 := dp_same s2 hc
      have et : (cs.take (i + 1)).filter (fun d => decide (d ≠ c)) = (cs.take i).filter (fun d => decide (d ≠ c)) ++ [d].filter (fun d => decide (d ≠ c)) := by
        rw [List.take_add_one, hd1, List.filter_append]
        rfl
      walk_at "rd"
      refine ⟨clD d, clD c, d2, c2, sh_cl od1, sh_cl oc, ?_⟩
      rw [eqv_cl]
      refine ⟨_, rfl, ite2 (fun h6 => ?_) (fun h6 => ?_)⟩
      · have hne : decide (d ≠ c) = true := by simpa using h6
        walk_at "rd"
        show spContains K _ _ _ _
        unfold spContains
        obtain ⟨b, ys, rfl, hb, ha⟩ := dp_tup d2
        refine ⟨p, b, c, d, rfl, c2, d2, oc, od1, od2, fun H4 s4 => ?_⟩
        refine ⟨_, s4 _ _ hM, ?_, ?_⟩
        · rw [List.length_map]
          exact szl (Nat.lt_of_le_of_lt (Nat.le_trans (List.length_filter_le _ _) (List.length_take_le' i cs)) (by omega))
        · refine ⟨same_at hD (s2.trans s4), ?_⟩
          rw [upd_same, et, List.filter_cons, if_pos hne, List.filter_nil, List.map_append]
          rfl
      · have hne : ¬ decide (d ≠ c) = true := by simpa using h6
        rw [et, List.filter_cons, if_neg hne, List.filter_nil, List.append_nil]
        exact ⟨s2, hM⟩
    rintro H2 ⟨s2, hM⟩
    rw [xl, List.take_length] at hM
    refine ⟨_, (cs.filter fun d => decide (d ≠ c)).map (inC c), rfl, sq (by rw [hM, List.map_map]; rfl), ?_⟩
    walk_at "rd"
    have e2 : (!(((cs.filter fun d => decide (d ≠ c)).map (inC c)).any id)) = leastB cs c := by
      unfold leastB
      rw [List.any_map, List.any_filter]
      rfl
    have q2 := qq H2 s2
    rw [← e2] at q2
    exact q2
@[irreducible] def spLeast (K : PySem.W.Frag) : Sp := fun vs H Q _ => ∃ (p : Addr) (xs : List V) (cs : List Cl), vs = [.ref p] ∧ (SqL K H p xs ∨ SqT K H p xs) ∧ DpAll K H xs (cs.map clD) ∧ (∀ d ∈ cs, OkC d ∧ d.length ≤ 1000) ∧ cs.length < 64 ∧
  ∀ (r : Addr) (ys : List V) (es : List Cl) (H' : Hp), Same H H' → SqT K H' r ys → es.Nodup → (∀ c, c ∈ es ↔ c ∈ cs) → es.length ≤ cs.length → ((es.map clD).Pairwise fun a b => So.dle a b = true) → DpAll K H' ys ((es.filter (leastB es)).map clD) → Q (.ref r) H'
theorem ok_least {f : Addr} {fd : FuncData} (F : Fun K "least_clauses" "least_clauses" s_least_clauses f fd) (m_set : mg "set" = none) (m_sorted : mg "sorted" = none) (m_tuple : mg "tuple" = none) (C__is_least : Cal P w K mg base "_is_least" 2 ["clause", "clauses"] (spIsLeast K)) : FnOk P w K mg base CX0 3 f fd ["clauses"] (spLeast K) := by
  refine F.ok sc_least_clauses (fun vs H Q E h => ?_) (fun cdv A outer s H vs Q E hr h => ?_)
  · unfold spLeast at h
    obtain ⟨p, xs, cs, rfl, _⟩ := h
    rfl
  · unfold spLeast at h
    obtain ⟨p, xs, cs, rfl, hp, hd, od, hl, qq⟩ := h
    refine ⟨_, (pss_cons (ps_set (i := 1) sc_least_clauses.nd rfl (Or.inr rfl) (pe_callB (id := "sorted") (Sd.cr_sortN (w := w) rfl rfl (room hr)) (by rfl) m_sorted (by decide +kernel) (pa_cons (pe_callTy (T := "set") (Sd.cr_setN (w := w) rfl rfl (room hr)) (by rfl) m_set (by decide +kernel) (pa_cons (pv 0) pa_nil)) pa_nil)))
    (pss_one (ps_ret (pe_callTy (T := "tuple") call_tuple_of (by rfl) m_tuple (by decide +kernel) (pa_cons (pe_lc (own := [("clause", 2)]) rfl sc_least_clauses.nd (pi_list (pv 1)) (blkOk_by (N := n_least_clauses) (sc := defScope s_least_clauses) (by decide +kernel)) (fun _ _ _ _ _ => pg_name (i := 2) sc_least_clauses.nd rfl (Or.inl rfl)) (fun _ _ _ _ _ => pts_one (pt_val (pe_cal C__is_least (hr.mono (by decide)) (pa_cons (pv 2) (pa_cons (pv 1) pa_nil))))) (fun _ _ _ _ _ => (pv 2))) pa_nil))))), ?_⟩
    walk_at "rd"
    refine ⟨p, xs, cs.map clD, rfl, hp, hd, fun d hd => (by obtain ⟨c, _, rfl⟩ := List.mem_map.mp hd; exact k8_cl c), by rw [List.length_map]; exact hl, fun S L es nS dS kS ndS mS lS => ?_⟩
    obtain ⟨fs, rfl⟩ := unmap (f := clD) (l := es) fun d hd => (by obtain ⟨c, _, e⟩ := List.mem_map.mp ((mS d).mp hd); exact ⟨c, e⟩)
    have s1 := same_new nS (o := Sd.SetN w S L)
    rw [List.length_map, List.length_map] at lS
    have dS2 := dpAll_same s1 dS
    refine ⟨S, L, fs.map clD, rfl, upd_same, dS2, kS, all_alike alike_cl fs, fun d hd => (by obtain ⟨c, _, rfl⟩ := List.mem_map.mp hd; exact k8_cl c), by rw [List.length_map]; omega, fun ys gs R nR pg dR => ?_⟩
    have s2 := same_new nR (o := .lst ys)
    have hR := upd_same (H := upd H S (Sd.SetN w S L)) (a := R) (o := .lst ys)
    have sA := s1.trans s2
    have dR2 := dpAll_same s2 dR
    have srt := PySem.W.sort_pairwise dle_total gs
    have pm : (gs.mergeSort So.dle).Perm (fs.map clD) := (List.mergeSort_perm _ _).trans pg
    obtain ⟨es, ees⟩ := unmap (f := clD) (l := gs.mergeSort So.dle) fun d hd => (by obtain ⟨c, _, e⟩ := List.mem_map.mp (pm.mem_iff.mp hd); exact ⟨c, e⟩)
    rw [ees] at dR2 pm srt
    have pe : es.Perm fs := perm_unmap (fun x y e => cl_inj e) pm
    have ndE : es.Nodup := pe.nodup_iff.mpr (Sd.nodup_of clD ndS)
    have mE : ∀ c, c ∈ es ↔ c ∈ cs := fun c => by
      rw [pe.mem_iff]
      have z := mS (clD c)
      rw [List.mem_map, List.mem_map] at z
      constructor
      · intro h
        obtain ⟨c', h1, h2⟩ := z.mp ⟨c, h, rfl⟩
        rw [← cl_inj h2]
        exact h1
      · intro h
        obtain ⟨c', h1, h2⟩ := z.mpr ⟨c, h, rfl⟩
        rw [← cl_inj h2]
        exact h1
    have lE : es.length ≤ cs.length := by rw [pe.length_eq]; exact lS
    have oE : ∀ d ∈ es, OkC d ∧ d.length ≤ 1000 := fun d hd => od d ((mE d).mp hd)
    generalize upd (upd H S (Sd.SetN w S L)) R (.lst ys) = H1 at sA hR dR2 ⊢
    clear dR s2 dS2 s1 dS
    have xl : ys.length = es.length := by rw [da_len dR2, List.length_map]
    walk_at "rd"
    refine ⟨⟨_, sq hR⟩, fun D hD => ?_⟩
    refine lc_it walk_list (fun i H' => Same H1 H' ∧ ∃ us, H' D = some (.lst us) ∧ DpAll K H' us (((es.take i).filter (leastB es)).map clD)) ⟨same_new hD, [], upd_same, .nil⟩ (fun i H' _ h => sq (h.1 _ _ hR)) ?_ ?_
    · rintro i v H2 H3 hi ⟨s2, us, hM, hus⟩ ⟨rfl, hx⟩
      obtain ⟨c, hc1, dc⟩ := da_atM dR2 hx
      refine ⟨rfl, ?_⟩
      have c2 := dp_same s2 dc
      have et : (es.take (i + 1)).filter (leastB es) = (es.take i).filter (leastB es) ++ [c].filter (leastB es) := by
        rw [List.take_add_one, hc1, List.filter_append]
        rfl
      obtain ⟨b, zs, rfl, hb, ha⟩ := dp_tup dc
      walk_at "rd"
      show spIsLeast K _ _ _ _
      unfold spIsLeast
      refine ⟨b, R, c, ys, es, rfl, c2, sq (s2 _ _ hR), dpAll_same s2 dR2, (oE c (List.mem_of_getElem? hc1)).1, oE, by omega, fun H4 s4 => ?_⟩
      walk_at "rd"
      have ul : us.length ≤ 1000 := by
        rw [da_len hus, List.length_map]
        exact Nat.le_trans (Nat.le_trans (List.length_filter_le _ _) (List.length_take_le' i es)) (by omega)
      refine ite2 (fun h6 => ?_) (fun h6 => ?_)
      · walk_at "rd"
        have hM4 := s4 _ _ hM
        refine ⟨us, hM4, szl (by omega), same_at hD (s2.trans s4), us ++ [.ref b], upd_same, ?_⟩
        rw [et, List.filter_cons, if_pos h6, List.filter_nil, List.map_append]
        exact da_app (da_tk (tk_lst hM4) _ _ (tup_cls _) (dpAll_same s4 hus)) (da_one (dp_tk (tk_lst hM4) _ _ (tup_lits _) (dp_same s4 c2)))
      · rw [et, List.filter_cons, if_neg h6, List.filter_nil, List.append_nil]
        exact ⟨s2.trans s4, us, s4 _ _ hM, dpAll_same s4 hus⟩
    rintro H2 ⟨s2, us, hM, hus⟩
    rw [xl, List.take_length] at hus
    walk_at "rd"
    refine ⟨D, _, rfl, .inl ⟨sq hM, fun r nr => ?_⟩⟩
    have s3 := same_new nr (o := .tup us)
    exact qq r us es _ (sA.trans (s2.trans s3)) (sqt upd_same) ndE mE lE srt (dpAll_same s3 hus)
end
end K08
namespace K08
local macro_rules | `(tactic| walk_at "rd") => `(tactic| repeat (first | refine ⟨rfl, ?_⟩ | refine ⟨_, rfl, ?_⟩ | refine ⟨_, _, rfl, rfl, ?_⟩ | refine ⟨⟨_, rfl⟩, ?_⟩))
open PySem PySem.Spec PyProof.Rows L2 Bx TL Dx Zx Ow Sup NdefX Px
/-! ### the order of literals -/
theorem lt_of {a b : List Nat} (h : a ≤ b) (hn : a ≠ b) : a < b := by
  by_cases c : a < b
  · exact c
  · exact absurd (List.le_antisymm h (List.not_lt.mp c)) hn
theorem dle_lit {x y : Lit} (h : So.dle (litD x) (litD y) = true) : x.1 = y.1 ∨ x.1.cps.toList < y.1.cps.toList := by
  have e : So.dle (litD x) (litD y) = !PySem.W.dataLt (litD y) (litD x) := rfl
  rw [e] at h
  unfold litD at h
  rw [PySem.W.dataLt_pair rfl rfl] at h
  by_cases c : y.1 = x.1
  · exact .inl c.symm
  · have z : PyData.eqv (.str y.1) (.str x.1) = false := by
      show (y.1 == x.1) = false
      exact beq_false_of_ne c
    rw [z, if_neg Bool.false_ne_true, PySem.W.dataLt_str, PySem.W.not_lt_str, decide_eq_true_iff] at h
    refine .inr ?_
    exact lt_of h fun e => c (by
      cases hy : y.1
      cases hx : x.1
      rw [hy, hx] at e
      simp only at e
      congr 1
      exact (Array.toList_inj.mp e).symm)
abbrev Up (c : Cl) : Prop := c.Pairwise fun x y => x.1.cps.toList < y.1.cps.toList
theorem up_of {ls : Cl} (h : (ls.map litD).Pairwise fun a b => So.dle a b = true) (nd : (ls.map (·.1)).Nodup) : Up ls := by
  have h1 : ls.Pairwise fun x y => So.dle (litD x) (litD y) = true := List.pairwise_map.mp h
  have h2 : ls.Pairwise fun x y => x.1 ≠ y.1 := List.pairwise_map.mp nd
  refine (h1.and h2).imp fun z => ?_
  exact (dle_lit z.1).resolve_left z.2
theorem nodup_cover : ∀ (ys ms : List Str), ys.Nodup → (∀ x, x ∈ ys → x ∈ ms) → (∀ x, x ∈ ms → x ∈ ys) → ms.length ≤ ys.length → ms.Nodup := by
  intro ys ms nd sub sup hl
  have key : ∀ (l m : List Str), l.Nodup → (∀ x, x ∈ l → x ∈ m) → l.length ≤ m.length := by
    intro l
    induction l with
    | nil => exact fun m _ _ => Nat.zero_le _
    | cons x l ih =>
      intro m nd sub
      obtain ⟨n1, n2⟩ := List.nodup_cons.mp nd
      have hx := sub x (List.mem_cons_self ..)
      have z := ih (m.erase x) n2 fun y hy => (List.mem_erase_of_ne fun e => n1 (by rw [← e]; exact hy)).mpr (sub y (List.mem_cons_of_mem _ hy))
      rw [List.length_erase_of_mem hx] at z
      have hp : 0 < m.length := List.length_pos_of_mem hx
      rw [List.length_cons]
      omega
  have e : ms.length = ys.length := Nat.le_antisymm hl (key ys ms nd sub)
  exact (Sx.perm_of_sub ys ms nd sub e).nodup_iff.mp nd
theorem nodup_le : ∀ (ms ys : List Str), ms.Nodup → (∀ x, x ∈ ms → x ∈ ys) → ms.length ≤ ys.length := by
  intro l
  induction l with
  | nil => exact fun m _ _ => Nat.zero_le _
  | cons x l ih =>
    intro m nd sub
    obtain ⟨n1, n2⟩ := List.nodup_cons.mp nd
    have hx := sub x (List.mem_cons_self ..)
    have z := ih (m.erase x) n2 fun y hy => (List.mem_erase_of_ne fun e => n1 (by rw [← e]; exact hy)).mpr (sub y (List.mem_cons_of_mem _ hy))
    rw [List.length_erase_of_mem hx] at z
    have hp : 0 < m.length := List.length_pos_of_mem hx
    rw [List.length_cons]
    omega
/-! ### resolvents -/
def lits (c d : Cl) (n : Str) : Cl := (c.filter fun l => decide (l ≠ (n, 1))) ++ d.filter fun l => decide (l ≠ (n, 0))
def IsRes (c d : Cl) (n : Str) : Option Cl → Prop
  | none => ∃ l ∈ lits c d n, ∃ l' ∈ lits c d n, l.1 = l'.1 ∧ l ≠ l'
  | some ls => (∀ l, l ∈ ls ↔ l ∈ lits c d n) ∧ Up ls
def OD (K : PySem.W.Frag) (H : Hp) (v : V) : Option Cl → Prop
  | none => v = .non
  | some ls => Dp K H v (clD ls)
theorem not_nodup : ∀ {ls : Cl}, ls.Nodup → ¬ (ls.map (·.1)).Nodup → ∃ l ∈ ls, ∃ l' ∈ ls, l.1 = l'.1 ∧ l ≠ l'
  | [], _, h => (h List.nodup_nil).elim
  | x :: ls, nd, h => by
    obtain ⟨n1, n2⟩ := List.nodup_cons.mp nd
    by_cases c : x.1 ∈ ls.map (·.1)
    · obtain ⟨y, hy, e⟩ := List.mem_map.mp c
      exact ⟨x, List.mem_cons_self .., y, List.mem_cons_of_mem _ hy, e.symm, fun z => n1 (z ▸ hy)⟩
    · have h2 : ¬ (ls.map (·.1)).Nodup := fun z => h (List.nodup_cons.mpr ⟨c, z⟩)
      obtain ⟨l, hl, l', hl', e⟩ := not_nodup n2 h2
      exact ⟨l, List.mem_cons_of_mem _ hl, l', List.mem_cons_of_mem _ hl', e⟩
section
variable {P : Program} {w : World} {K : PySem.W.Frag} {mg : Str → Option Value} {base : Heap}
theorem ne_lit (x y : Lit) : (!PyData.eqv (litD x) (litD y)) = decide (x ≠ y) := by
  rw [eqv_lit]
  by_cases h : x = y <;> simp [h]
theorem take_filterA {α : Type} {p : α → Bool} {l : List α} {i : Nat} {y : α} (h : l[i]? = some y) : (l.take (i + 1)).filter p = (l.take i).filter p ++ [y].filter p := by
  rw [List.take_add_one, h, List.filter_append]
  rfl
@[irreducible] def spRes (K : PySem.W.Frag) : Sp := fun vs H Q _ => ∃ (p q : Addr) (c d : Cl) (n : Str), vs = [.ref p, .ref q, .str n] ∧ Dp K H (.ref p) (clD c) ∧ Dp K H (.ref q) (clD d) ∧ OkC c ∧ OkC d ∧ PyData.strOk n = true ∧ c.length ≤ 20 ∧ d.length ≤ 20 ∧
  ∀ (v : V) (o : Option Cl) (H' : Hp), Same H H' → IsRes c d n o → OD K H' v o → Q v H'
theorem ok_resolvent {f : Addr} {fd : FuncData} (F : Fun K "resolvent" "resolvent" s_resolvent f fd) (m_len : mg "len" = none) (m_set : mg "set" = none) (m_sorted : mg "sorted" = none) (m_tuple : mg "tuple" = none) : FnOk P w K mg base CX0 1 f fd ["first", "second", "name"] (spRes K) := by
  refine F.ok sc_resolvent (fun vs H Q E h => ?_) (fun cdv A outer s H vs Q E hr h => ?_)
  · unfold spRes at h
    obtain ⟨p, q, c, d, n, rfl, _⟩ := h
    rfl
  · unfold spRes at h
    obtain ⟨p, q, c, d, n, rfl, hc, hd, oc, od, on, lc, ld, qq⟩ := h
    refine ⟨_, (pss_cons (ps_setLc (i := 3) (own := [("literal", 6)]) rfl sc_resolvent.nd rfl rfl (sw_true rfl rfl rfl (by decide +kernel)) (pi_tup (pv 0)) (blkOk_by (N := n_resolvent) (sc := defScope s_resolvent) (by decide +kernel)) (fun _ _ _ _ _ => pg_name (i := 6) sc_resolvent.nd rfl (Or.inl rfl)) (fun _ _ _ _ _ => pts_one (pt_cmpR (Sl.op_neDK (K := K) rfl hr.units) (pv 6) (pe_tup (pa_cons (pv 2) (pa_cons pe_int pa_nil))) (nomark _))) (fun _ _ _ _ _ => (pv 6)))
    (pss_cons (ps_setLc (i := 4) (own := [("literal", 6)]) rfl sc_resolvent.nd rfl rfl (sw_true rfl rfl rfl (by decide +kernel)) (pi_tup (pv 1)) (blkOk_by (N := n_resolvent) (sc := defScope s_resolvent) (by decide +kernel)) (fun _ _ _ _ _ => pg_name (i := 6) sc_resolvent.nd rfl (Or.inl rfl)) (fun _ _ _ _ _ => pts_one (pt_cmpR (Sl.op_neDK (K := K) rfl hr.units) (pv 6) (pe_tup (pa_cons (pv 2) (pa_cons pe_int pa_nil))) (nomark _))) (fun _ _ _ _ _ => (pv 6)))
    (pss_cons (ps_set (i := 5) sc_resolvent.nd rfl (Or.inl rfl) (pe_callB (id := "sorted") (Sd.cr_sortN (w := w) rfl rfl (room hr)) (by rfl) m_sorted (by decide +kernel) (pa_cons (pe_callTy (T := "set") (Sd.cr_setN (w := w) rfl rfl (room hr)) (by rfl) m_set (by decide +kernel) (pa_cons (pe_lst (StX.pa_star (pv 3) (StX.pa_star (pv 4) pa_nil))) pa_nil)) pa_nil)))
    (pss_cons (ps_if (pt_cmpR op_lt (pe_callB Sl.call_lenX (by rfl) m_len PySem.boot_len (pa_cons (pe_callTy (T := "set") (Sx.cr_setX rfl) (by rfl) m_set (by decide +kernel) (pa_cons (pe_lc (own := [("own", 7), ("_", 8)]) (tt := tYes) rfl sc_resolvent.nd (pi_list (pv 5)) (blkOk_by (N := n_resolvent) (sc := defScope s_resolvent) (by decide +kernel)) (fun _ _ _ _ _ => pg_tupK (K := K) (n := 2) rfl rfl (pgs_cons (pg_name (i := 7) sc_resolvent.nd rfl (Or.inl rfl)) (pgs_cons (pg_name (i := 8) sc_resolvent.nd rfl (Or.inl rfl)) pgs_nil))) (fun _ _ _ _ _ => pts_nil) (fun _ _ _ _ _ => (pv 7))) pa_nil)) pa_nil)) (pe_callB call_len_seq (by rfl) m_len PySem.boot_len (pa_cons (pv 5) pa_nil)) (nomark _))
      (pss_one (ps_ret pe_non))
      pss_nil)
    (pss_one (ps_ret (pe_callTy (T := "tuple") call_tuple_of (by rfl) m_tuple (by decide +kernel) (pa_cons (pv 5) pa_nil)))))))), ?_⟩
    walk_at "rd"
    obtain ⟨p', xs, ep, ht, ha⟩ := dp_tup hc
    cases ep
    have xl : xs.length = c.length := by rw [da_len ha, List.length_map]
    refine ⟨⟨_, ht⟩, fun D hD => ?_⟩
    refine lc_it walk_tup (fun i H' => Same H H' ∧ ∃ us, H' D = some (.lst us) ∧ DpAll K H' us (((c.take i).filter fun l => decide (l ≠ (n, 1))).map litD)) ⟨same_new hD, [], upd_same, .nil⟩ (fun i H' _ h => Bx.Same.tup h.1 ht) ?_ ?_
    · rintro i v H2 H3 hi ⟨s2, us, hM, hus⟩ ⟨rfl, hx⟩
      obtain ⟨l, hl, dl⟩ := da_atM ha hx
      refine ⟨rfl, ?_⟩
      walk_at "rd"
      refine ⟨sz (by show 2 ≤ 100000; decide), fun T nT => ?_⟩
      have s3 := same_new nT (o := .tup [.str n, .int 1])
      have hT := upd_same (H := H3) (a := T) (o := .tup [.str n, .int 1])
      generalize upd H3 T (.tup [.str n, .int 1]) = H4 at s3 hT ⊢
      have dl4 := dp_same (s2.trans s3) dl
      have hM4 := s3 _ _ hM
      have hus4 := dpAll_same s3 hus
      refine ⟨litD l, litD (n, 1), dl4, dp_lit (sqt hT), sh_lit (oc l (List.mem_of_getElem? hl)), sh_lit (l := (n, 1)) on, ?_⟩
      rw [ne_lit]
      refine ⟨_, rfl, ite2 (fun h6 => ?_) (fun h6 => ?_)⟩
      · walk_at "rd"
        have ul : us.length ≤ 20 := by
          rw [da_len hus, List.length_map]
          exact Nat.le_trans (Nat.le_trans (List.length_filter_le _ _) (List.length_take_le' i c)) (by omega)
        refine ⟨us, hM4, szl (by omega), same_at hD (s2.trans s3), us ++ [v], upd_same, ?_⟩
        rw [take_filterA hl, List.filter_cons, if_pos h6, List.filter_nil, List.map_append]
        exact da_app (da_tk (tk_lst hM4) _ _ (tup_lits _) hus4) (da_one (dp_tk (tk_lst hM4) _ _ rfl dl4))
      · rw [take_filterA hl, List.filter_cons, if_neg h6, List.filter_nil, List.append_nil]
        exact ⟨s2.trans s3, us, hM4, hus4⟩
    rintro H1 ⟨s1, us, hM, hus⟩
    rw [xl, List.take_length] at hus
    walk_at "rd"
    obtain ⟨q', xs2, eq, ht2, ha2⟩ := dp_tup hd
    cases eq
    have xl2 : xs2.length = d.length := by rw [da_len ha2, List.length_map]
    have ht21 := Bx.Same.tup s1 ht2
    refine ⟨⟨_, ht21⟩, fun D2 hD2 => ?_⟩
    refine lc_it walk_tup (fun i H' => Same H1 H' ∧ ∃ us, H' D2 = some (.lst us) ∧ DpAll K H' us (((d.take i).filter fun l => decide (l ≠ (n, 0))).map litD)) ⟨same_new hD2, [], upd_same, .nil⟩ (fun i H' _ h => Bx.Same.tup h.1 ht21) ?_ ?_
    · rintro i v H2 H3 hi ⟨s2, us, hM, hus⟩ ⟨rfl, hx⟩
      obtain ⟨l, hl, dl⟩ := da_atM ha2 hx
      refine ⟨rfl, ?_⟩
      walk_at "rd"
      refine ⟨sz (by show 2 ≤ 100000; decide), fun T nT => ?_⟩
      have s3 := same_new nT (o := .tup [.str n, .int 0])
      have hT := upd_same (H := H3) (a := T) (o := .tup [.str n, .int 0])
      generalize upd H3 T (.tup [.str n, .int 0]) = H4 at s3 hT ⊢
      have dl4 := dp_same (s1.trans (s2.trans s3)) dl
      have hM4 := s3 _ _ hM
      have hus4 := dpAll_same s3 hus
      refine ⟨litD l, litD (n, 0), dl4, dp_lit (sqt hT), sh_lit (od l (List.mem_of_getElem? hl)), sh_lit (l := (n, 0)) on, ?_⟩
      rw [ne_lit]
      refine ⟨_, rfl, ite2 (fun h6 => ?_) (fun h6 => ?_)⟩
      · walk_at "rd"
        have ul : us.length ≤ 20 := by
          rw [da_len hus, List.length_map]
          exact Nat.le_trans (Nat.le_trans (List.length_filter_le _ _) (List.length_take_le' i d)) (by omega)
        refine ⟨us, hM4, szl (by omega), same_at hD2 (s2.trans s3), us ++ [v], upd_same, ?_⟩
        rw [take_filterA hl, List.filter_cons, if_pos h6, List.filter_nil, List.map_append]
        exact da_app (da_tk (tk_lst hM4) _ _ (tup_lits _) hus4) (da_one (dp_tk (tk_lst hM4) _ _ rfl dl4))
      · rw [take_filterA hl, List.filter_cons, if_neg h6, List.filter_nil, List.append_nil]
        exact ⟨s2.trans s3, us, hM4, hus4⟩
    rintro H2 ⟨s2, us2, hM2, hus2⟩
    rw [xl2, List.take_length] at hus2
    have hM1 := s2 _ _ hM
    have hus1 := dpAll_same s2 hus
    walk_at "rd"
    have ul1 : us.length ≤ 20 := by
      rw [da_len hus, List.length_map]
      exact Nat.le_trans (List.length_filter_le _ _) lc
    have ul2 : us2.length ≤ 20 := by
      rw [da_len hus2, List.length_map]
      exact Nat.le_trans (List.length_filter_le _ _) ld
    refine ⟨D, us, rfl, .inr (sq hM1), ?_⟩
    walk_at "rd"
    refine ⟨D2, us2, rfl, .inr (sq hM2), ?_⟩
    walk_at "rd"
    refine ⟨sz (by rw [List.append_nil, List.length_append]; omega), fun L nL => ?_⟩
    have s3 := same_new nL (o := .lst (us ++ (us2 ++ [])))
    have dL : DpAll K H2 (us ++ (us2 ++ [])) ((lits c d n).map litD) := by
      unfold lits
      rw [List.map_append, List.append_nil]
      exact da_app hus1 hus2
    have ll : (lits c d n).length ≤ 40 := by
      have z := da_len dL
      rw [List.append_nil, List.length_append, List.length_map] at z
      omega
    walk_at "rd"
    refine ⟨L, _, (lits c d n).map litD, rfl, .inl (sq upd_same), dpAll_same s3 dL, fun e he => (by obtain ⟨l, _, rfl⟩ := List.mem_map.mp he; exact k8_lit l), by rw [List.length_map]; omega, fun S L2 es nS dS kS ndS mS lS => ?_⟩
    obtain ⟨fs, rfl⟩ := unmap (f := litD) (l := es) fun e he => (by obtain ⟨l, _, e⟩ := List.mem_map.mp ((mS e).mp he); exact ⟨l, e⟩)
    have s4 := same_new nS (o := Sd.SetN w S L2)
    rw [List.length_map, List.length_map] at lS
    have dS2 := dpAll_same s4 dS
    refine ⟨S, L2, fs.map litD, rfl, upd_same, dS2, kS, all_alike alike_lit fs, fun e he => (by obtain ⟨l, _, rfl⟩ := List.mem_map.mp he; exact k8_lit l), by rw [List.length_map]; omega, fun ys gs R nR pg dR => ?_⟩
    have s5 := same_new nR (o := .lst ys)
    have hR := upd_same (H := upd (upd H2 L (.lst (us ++ (us2 ++ [])))) S (Sd.SetN w S L2)) (a := R) (o := .lst ys)
    have sA := (s1.trans s2).trans (s3.trans (s4.trans s5))
    have dR2 := dpAll_same s5 dR
    have pm : (gs.mergeSort So.dle).Perm (fs.map litD) := (List.mergeSort_perm _ _).trans pg
    have srt := PySem.W.sort_pairwise dle_total gs
    obtain ⟨ls, els⟩ := unmap (f := litD) (l := gs.mergeSort So.dle) fun e he => (by obtain ⟨l, _, e⟩ := List.mem_map.mp (pm.mem_iff.mp he); exact ⟨l, e⟩)
    rw [els] at dR2 pm srt
    have pe : ls.Perm fs := perm_unmap (fun x y e => lit_inj e) pm
    have ndE : ls.Nodup := pe.nodup_iff.mpr (Sd.nodup_of litD ndS)
    have mE : ∀ l, l ∈ ls ↔ l ∈ lits c d n := fun l => by
      rw [pe.mem_iff]
      have z := mS (litD l)
      rw [List.mem_map, List.mem_map] at z
      constructor
      · intro h
        obtain ⟨c', h1, h2⟩ := z.mp ⟨l, h, rfl⟩
        rw [← lit_inj h2]
        exact h1
      · intro h
        obtain ⟨c', h1, h2⟩ := z.mpr ⟨l, h, rfl⟩
        rw [← lit_inj h2]
        exact h1
    have lE : ls.length ≤ 40 := by rw [pe.length_eq]; omega
    generalize upd (upd (upd H2 L (.lst (us ++ (us2 ++ [])))) S (Sd.SetN w S L2)) R (.lst ys) = H3 at sA hR dR2 ⊢
    clear dR s5 dS2 s4 dS s3
    have yl : ys.length = ls.length := by rw [da_len dR2, List.length_map]
    walk_at "rd"
    refine ⟨⟨_, sq hR⟩, fun D3 hD3 => ?_⟩
    refine lc_it walk_list (fun i H' => H' = upd H3 D3 (.lst (((ls.take i).map (·.1)).map V.str))) rfl (fun i H' _ e => e ▸ sq (same_new hD3 _ _ hR)) ?_ ?_
    · rintro i v H4 H5 hi rfl ⟨rfl, hx⟩
      obtain ⟨l, hl, dl⟩ := da_atM dR2 hx
      obtain ⟨b, rfl, hb⟩ := lit_dp (dp_same (same_new hD3 (o := .lst (((ls.take i).map (·.1)).map V.str))) dl)
      refine ⟨b, _, rfl, hb, rfl, _, _, rfl, _, _, rfl, rfl, rfl, ?_⟩
      walk_at "rd"
      refine ⟨_, upd_same, ?_, ?_⟩
      · rw [List.length_map, List.length_map]
        exact szl (Nat.lt_of_le_of_lt (List.length_take_le' i ls) (by omega))
      · rw [upd_upd, List.take_add_one, hl, List.map_append, List.map_append]
        rfl
    rintro H4 rfl
    rw [yl, List.take_length]
    have s6 := same_new hD3 (o := .lst ((ls.map (·.1)).map V.str))
    refine ⟨D3, ls.map (·.1), rfl, .inl (sq upd_same), by rw [List.length_map]; omega, fun p1 ns n1 hm nd hlen => ?_⟩
    have s7 := same_new n1 (o := Sx.SetV P w p1 ns)
    rw [List.length_map] at hlen
    refine ⟨p1, ns, rfl, upd_same, by omega, ?_⟩
    walk_at "rd"
    refine ⟨R, ys, rfl, .inl (sq (s7 _ _ (s6 _ _ hR))), ?_⟩
    have sB := sA.trans (s6.trans s7)
    walk_at "rd"
    refine ite2 (fun h6 => ?_) (fun h6 => ?_)
    · have h7 : ns.length < ls.length := by
        have z : ((ns.length : Nat) : Int) < (ys.length : Nat) := of_decide_eq_true h6
        rw [yl] at z
        omega
      walk_at "rd"
      refine qq .non none _ sB ?_ rfl
      obtain ⟨l, hl, l', hl', e⟩ := not_nodup ndE fun z => by
        have q := nodup_le _ ns z fun x hx => (hm x).mpr hx
        rw [List.length_map] at q
        omega
      exact ⟨l, (mE l).mp hl, l', (mE l').mp hl', e⟩
    · have h7 : ls.length ≤ ns.length := by
        have z : ¬ ((ns.length : Nat) : Int) < (ys.length : Nat) := of_decide_eq_false (by simpa using h6)
        rw [yl] at z
        omega
      walk_at "rd"
      refine ⟨R, _, rfl, .inl ⟨sq (s7 _ _ (s6 _ _ hR)), fun r nr => ?_⟩⟩
      have s8 := same_new nr (o := .tup ys)
      refine qq (.ref r) (some ls) _ (sB.trans s8) ⟨mE, up_of srt ?_⟩ (.tup (sqt upd_same) (dpAll_same (s6.trans (s7.trans s8)) dR2))
      exact nodup_cover ns _ nd (fun x hx => (hm x).mp hx) (fun x hx => (hm x).mpr hx) (by rw [List.length_map]; exact h7)
end
end K08
namespace K08
local macro_rules | `(tactic| walk_at "rd") => `(tactic| repeat (first | refine ⟨rfl, ?_⟩ | refine ⟨_, rfl, ?_⟩ | refine ⟨_, _, rfl, rfl, ?_⟩ | refine ⟨⟨_, rfl⟩, ?_⟩))
open PySem PySem.Spec PyProof.Rows L2 Bx TL Dx Zx Ow Sup NdefX Px
/-! ### assignments -/
abbrev As := List (Str × Int)
def asV (l : As) : List (Key × V) := l.map fun p => (.inr p.1, .int p.2)
def vl (l : As) (z : Str) : Int := ((l.find? fun p => decide (p.1 = z)).map (·.2)).getD 0
theorem val_as : ∀ (l : As) (z : Str), valV (asV l) (.inr z) = ((l.find? fun p => decide (p.1 = z)).map (·.2)).map V.int
  | [], _ => rfl
  | p :: r, z => by
    have ih := val_as r z
    by_cases e : p.1 = z
    · have e2 : ((.inr p.1 : Key), V.int p.2).1 = .inr z := congrArg Sum.inr e
      show valV (((.inr p.1 : Key), V.int p.2) :: asV r) (.inr z) = _
      rw [valV_pos e2, List.find?_cons, decide_eq_true e]
      rfl
    · have e2 : ¬ ((.inr p.1 : Key), V.int p.2).1 = .inr z := fun h => e (Sum.inr.inj h)
      show valV (((.inr p.1 : Key), V.int p.2) :: asV r) (.inr z) = _
      rw [valV_neg e2, List.find?_cons, decide_eq_false e]
      exact ih
theorem has_as {l : As} {z : Str} (h : z ∈ l.map (·.1)) : valV (asV l) (.inr z) = some (.int (vl l z)) := by
  rw [val_as]
  unfold vl
  cases e : l.find? fun p => decide (p.1 = z) with
  | none =>
    obtain ⟨p, hp, rfl⟩ := List.mem_map.mp h
    have := List.find?_eq_none.mp e p hp
    simp at this
  | some p => rfl
abbrev Kn (l : As) (c : Cl) : Prop := ∀ x ∈ c, x.1 ∈ l.map (·.1)
def hold (f : Str → Int) (c : Cl) : Bool := c.any fun x => decide (f x.1 = x.2)
section
variable {P : Program} {w : World} {K : PySem.W.Frag} {mg : Str → Option Value} {base : Heap}
@[irreducible] def spNIn (K : PySem.W.Frag) : Sp := fun vs H Q _ => ∃ (a p : Addr) (c : Cl), vs = [.ref a, .ref p] ∧ Dp K H (.ref p) (clD c) ∧ c.length ≤ 1000 ∧ ∀ r H', Same H H' → H r = none → H' r = some (.tup ((c.map (·.1)).map V.str)) → Q (.ref r) H'
theorem ok_names_in {f : Addr} {fd : FuncData} (F : Fun K "names_in" "Bits.names_in" s_Bits_names_in f fd) (m_tuple : mg "tuple" = none) : FnOk P w K mg base CX0 1 f fd ["self", "constraint"] (spNIn K) := by
  refine F.ok sc_Bits_names_in (fun vs H Q E h => ?_) (fun cdv A outer s H vs Q E hr h => ?_)
  · unfold spNIn at h
    obtain ⟨a, p, c, rfl, _⟩ := h
    rfl
  · unfold spNIn at h
    obtain ⟨a, p, c, rfl, hc, lc, qq⟩ := h
    refine ⟨_, (pss_one (ps_ret (pe_callTy (T := "tuple") call_tuple_of (by rfl) m_tuple (by decide +kernel) (pa_cons (pe_lc (own := [("name", 2), ("_", 3)]) (tt := tYes) rfl sc_Bits_names_in.nd (pi_tup (pv 1)) (blkOk_by (N := n_Bits_names_in) (sc := defScope s_Bits_names_in) (by decide +kernel)) (fun _ _ _ _ _ => pg_tupK (K := K) (n := 2) rfl rfl (pgs_cons (pg_name (i := 2) sc_Bits_names_in.nd rfl (Or.inl rfl)) (pgs_cons (pg_name (i := 3) sc_Bits_names_in.nd rfl (Or.inl rfl)) pgs_nil))) (fun _ _ _ _ _ => pts_nil) (fun _ _ _ _ _ => (pv 2))) pa_nil)))), ?_⟩
    walk_at "rd"
    obtain ⟨p', xs, ep, ht, ha⟩ := dp_tup hc
    cases ep
    have xl : xs.length = c.length := by rw [da_len ha, List.length_map]
    refine ⟨⟨_, ht⟩, fun D hD => ?_⟩
    refine lc_it walk_tup (fun i H' => H' = upd H D (.lst (((c.take i).map (·.1)).map V.str))) rfl (fun i H' _ e => e ▸ Bx.Same.tup (same_new hD) ht) ?_ ?_
    · rintro i v H2 H3 hi rfl ⟨rfl, hx⟩
      obtain ⟨l, hl, dl⟩ := da_atM ha hx
      obtain ⟨b, rfl, hb⟩ := lit_dp (dp_same (same_new hD (o := .lst (((c.take i).map (·.1)).map V.str))) dl)
      refine ⟨b, _, rfl, hb, rfl, _, _, rfl, _, _, rfl, rfl, rfl, ?_⟩
      walk_at "rd"
      refine ⟨_, upd_same, ?_, ?_⟩
      · rw [List.length_map, List.length_map]
        exact szl (Nat.lt_of_le_of_lt (List.length_take_le' i c) (by omega))
      · rw [upd_upd, List.take_add_one, hl, List.map_append, List.map_append]
        rfl
    rintro H4 rfl
    rw [xl, List.take_length]
    have sM := same_new hD (o := .lst ((c.map (·.1)).map V.str))
    have hM := upd_same (H := H) (a := D) (o := .lst ((c.map (·.1)).map V.str))
    generalize upd H D (.lst ((c.map (·.1)).map V.str)) = H4 at sM hM ⊢
    walk_at "rd"
    refine ⟨D, _, rfl, .inl ⟨sq hM, fun r nr => ?_⟩⟩
    exact qq r _ (sM.trans (same_new nr)) (sM.free nr) upd_same
@[irreducible] def spHolds (K : PySem.W.Frag) : Sp := fun vs H Q _ => ∃ (a p d : Addr) (c : Cl) (l : As), vs = [.ref a, .ref p, .ref d] ∧ Dp K H (.ref p) (clD c) ∧ H d = some (.dK (asV l)) ∧ Kn l c ∧ c.length ≤ 1000 ∧ ∀ H', Same H H' → Q (.bl (hold (vl l) c)) H'
theorem ok_holds {f : Addr} {fd : FuncData} (F : Fun K "holds" "Bits.holds" s_Bits_holds f fd) (m_any : mg "any" = none) : FnOk P w K mg base CX0 1 f fd ["self", "constraint", "assignment"] (spHolds K) := by
  refine F.ok sc_Bits_holds (fun vs H Q E h => ?_) (fun cdv A outer s H vs Q E hr h => ?_)
  · unfold spHolds at h
    obtain ⟨a, p, d, c, l, rfl, _⟩ := h
    rfl
  · unfold spHolds at h
    obtain ⟨a, p, d, c, l, rfl, hc, hd, kn, lc, qq⟩ := h
    have hu := hu_of hr
    refine ⟨_, (pss_one (ps_ret (pe_callB (id := "any") (cr_any rfl) (by rfl) m_any (by decide +kernel) (pa_cons (pe_lc (own := [("name", 3), ("sign", 4)]) (tt := tYes) rfl sc_Bits_holds.nd (pi_tup (pv 1)) (blkOk_by (N := n_Bits_holds) (sc := defScope s_Bits_holds) (by decide +kernel)) (fun _ _ _ _ _ => pg_tupK (K := K) (n := 2) rfl rfl (pgs_cons (pg_name (i := 3) sc_Bits_holds.nd rfl (Or.inl rfl)) (pgs_cons (pg_name (i := 4) sc_Bits_holds.nd rfl (Or.inl rfl)) pgs_nil))) (fun _ _ _ _ _ => pts_nil) (fun _ _ _ _ _ => (pe_cmpR op_eq (pe_dget hu (pv 2) (pv 3) (fun _ _ => rfl)) (pv 4) (nomark _)))) pa_nil)))), ?_⟩
    walk_at "rd"
    obtain ⟨p', xs, ep, ht, ha⟩ := dp_tup hc
    cases ep
    have xl : xs.length = c.length := by rw [da_len ha, List.length_map]
    refine ⟨⟨_, ht⟩, fun D hD => ?_⟩
    refine lc_it walk_tup (fun i H' => H' = upd H D (.lst ((c.take i).map fun x => V.bl (decide (vl l x.1 = x.2))))) rfl (fun i H' _ e => e ▸ Bx.Same.tup (same_new hD) ht) ?_ ?_
    · rintro i v H2 H3 hi rfl ⟨rfl, hx⟩
      have sD := same_new hD (o := .lst ((c.take i).map fun x => V.bl (decide (vl l x.1 = x.2))))
      obtain ⟨x, hx1, dl⟩ := da_atM ha hx
      obtain ⟨b, rfl, hb⟩ := lit_dp (dp_same sD dl)
      refine ⟨b, _, rfl, hb, rfl, _, _, rfl, _, _, rfl, rfl, rfl, ?_⟩
      walk_at "rd"
      refine ⟨d, .int (vl l x.1), rfl, ?_, ?_⟩
      · rw [← has_as (kn x (List.mem_of_getElem? hx1))]
        exact DGet.k (k := .inr x.1) (sD _ _ hd)
      walk_at "rd"
      have eb : decide (V.int (vl l x.1) = V.int x.2) = decide (vl l x.1 = x.2) := by
        by_cases h : vl l x.1 = x.2
        · rw [h]
          simp
        · rw [decide_eq_false h, decide_eq_false fun z => h (V.int.inj z)]
      refine ⟨_, upd_same, ?_, ?_⟩
      · rw [List.length_map]
        exact szl (Nat.lt_of_le_of_lt (List.length_take_le' i c) (by omega))
      · rw [upd_upd, List.take_add_one, hx1, List.map_append]
        show upd H D (.lst (_ ++ [V.bl (decide (V.int (vl l x.1) = V.int x.2))])) = _
        rw [eb]
        rfl
    rintro H4 rfl
    rw [xl, List.take_length]
    have e1 : (c.map fun x => V.bl (decide (vl l x.1 = x.2))) = (c.map fun x => decide (vl l x.1 = x.2)).map V.bl := by
      rw [List.map_map]
      rfl
    rw [e1]
    have sM := same_new hD (o := .lst ((c.map fun x => decide (vl l x.1 = x.2)).map V.bl))
    refine ⟨_, c.map fun x => decide (vl l x.1 = x.2), rfl, sq upd_same, ?_⟩
    have e2 : (c.map fun x => decide (vl l x.1 = x.2)).any id = hold (vl l) c := by
      unfold hold
      rw [List.any_map]
      rfl
    rw [e2]
    exact qq _ sM
end
end K08
namespace K08
local macro_rules | `(tactic| walk_at "rd") => `(tactic| repeat (first | refine ⟨rfl, ?_⟩ | refine ⟨_, rfl, ?_⟩ | refine ⟨_, _, rfl, rfl, ?_⟩ | refine ⟨⟨_, rfl⟩, ?_⟩))
open PySem PySem.Spec PyProof.Rows L2 Bx TL Dx Zx Ow Sup NdefX Px
theorem app_len (x y : Str) : (x ++ y).length = x.length + y.length := by
  rw [len_tl, tl_append, List.length_append, ← len_tl, ← len_tl]
theorem set_gi {te : TE} {i : Nat} {D : Ends} {rest : TS} {σ : List (Option V)} {H : Hp} (R : V → Hp → Prop) (h : ∀ Z : VK, (∀ v H', R v H' → Z v H') → te σ H Z) (k : ∀ v H', R v H' → rest D (σ.set i (some v)) H') : tSeq (tAsg te (gName i)) rest D σ H :=
  h (fun v H' => rest D (σ.set i (some v)) H') k
theorem st_gi {t : TS} {i : Nat} {D : Ends} {rest : TS} {σ : List (Option V)} {H : Hp} (R : V → Hp → Prop) (h : ∀ D' : Ends, (∀ v H', R v H' → D'.nx (σ.set i (some v)) H') → t D' σ H) (k : ∀ v H', R v H' → rest D (σ.set i (some v)) H') : tSeq t rest D σ H :=
  h { D with nx := rest D } k
section
variable {P : Program} {w : World} {K : PySem.W.Frag} {mg : Str → Option Value} {base : Heap}
/-! ### the law's own: draws -/
theorem int_at {ns : List Int} {k : Nat} (h : k < ns.length) : atI (ns.map V.int) (k : Int) = some (V.int ns[k]) := atI_nat (by rw [List.getElem?_map, List.getElem?_eq_getElem h]; rfl)
def spSource (K : PySem.W.Frag) : Sp := fun vs H Q _ => ∃ (a : Addr) (ns : List Int) (k : Nat), vs = [.ref a, .int (k : Int)] ∧ SqL K H a (ns.map V.int) ∧ k ≤ 100 ∧ ∀ p n c, H p = none → Q (.ref p) (upd H p (.lst [.int n, .int c]))
theorem ok_source {f : Addr} {fd : FuncData} (F : Fun K "_law_source" "_law_source" s__law_source f fd) (m_len : mg "len" = none) (m_int : mg "int" = none) : FnOk P w K mg base CX0 1 f fd ["_law_script", "_law_k"] (spSource K) := by
  refine F.ok sc__law_source (fun vs H Q E h => ?_) (fun cdv A outer s H vs Q E hr h => ?_)
  · obtain ⟨a, ns, k, rfl, _⟩ := h
    rfl
  · obtain ⟨a, ns, k, rfl, hS, hk, q⟩ := h
    refine ⟨_, (pss_cons (ps_set (i := 2) sc__law_source.nd rfl (Or.inl rfl) pe_int)
    (pss_cons (ps_if (pt_cmpR op_lt (pv 1) (pe_callB call_len_seq (by rfl) m_len PySem.boot_len (pa_cons (pv 0) pa_nil)) (nomark _))
      (pss_one (ps_set (i := 2) sc__law_source.nd rfl (Or.inl rfl) (pe_callTy (T := "int") call_int1 (by rfl) m_int (by decide +kernel) (pa_cons (pe_ix ix_list (pv 0) (pv 1) (fun _ _ => rfl)) pa_nil))))
      pss_nil)
    (pss_one (ps_ret (pe_lst (pa_cons (pv 2) (pa_cons (pe_op op_add (pe_op op_mul pe_int (pv 1)) (pe_callB call_len_seq (by rfl) m_len PySem.boot_len (pa_cons (pv 0) pa_nil))) pa_nil))))))), ?_⟩
    walk_at "rd"
    refine ⟨_, _, rfl, .inl hS, ?_⟩
    walk_at "rd"
    refine ite2 (fun h0 => ?_) (fun h0 => ?_)
    · have h1 : (k : Int) < ((ns.map V.int).length : Nat) := of_decide_eq_true h0
      rw [List.length_map] at h1
      walk_at "rd"
      refine ⟨_, _, _, _, rfl, rfl, hS, int_at (k := k) (by omega), ?_⟩
      refine .inl ⟨_, rfl, ?_⟩
      walk_at "rd"
      refine ⟨.inr ⟨by omega, by omega⟩, ?_⟩
      walk_at "rd"
      refine ⟨_, _, rfl, .inl hS, ?_⟩
      walk_at "rd"
      exact ⟨sz (by show 2 ≤ 100000; decide), fun p np => q p _ _ np⟩
    · walk_at "rd"
      refine ⟨.inr ⟨by omega, by omega⟩, ?_⟩
      walk_at "rd"
      refine ⟨_, _, rfl, .inl hS, ?_⟩
      walk_at "rd"
      exact ⟨sz (by show 2 ≤ 100000; decide), fun p np => q p _ _ np⟩
theorem modb (x : Int) {k : Int} (h : 0 < k) (h2 : k ≤ 2 ^ 64) : -(2 ^ 64) < x % k ∧ x % k < 2 ^ 64 := by
  have a := Int.emod_nonneg x (show k ≠ 0 by omega)
  have b := Int.emod_lt_of_pos x h
  omega
@[irreducible] def spDraw : Sp := fun vs H Q _ => ∃ (a : Addr) (n c lim : Int), vs = [.ref a, .int lim] ∧ H a = some (.lst [.int n, .int c]) ∧ 0 < lim ∧ lim < 1073741824 ∧ ∀ r n' c', 0 ≤ r → r < lim → Q (.int r) (upd H a (.lst [.int n', .int c']))
theorem ok_draw {f : Addr} {fd : FuncData} (F : Fun K "_law_draw" "_law_draw" s__law_draw f fd) (m_int : mg "int" = none) : FnOk P w K mg base CX0 1 f fd ["_law_source_here", "_law_limit"] spDraw := by
  refine F.ok sc__law_draw (fun vs H Q E h => ?_) (fun cdv A outer s H vs Q E hr h => ?_)
  · unfold spDraw at h
    obtain ⟨a, n, c, lim, rfl, _⟩ := h
    rfl
  · unfold spDraw at h
    obtain ⟨a, n, c, lim, rfl, hA, h0, h1, q⟩ := h
    have hfm : ∀ x : Int, 0 ≤ x.fmod lim ∧ x.fmod lim < lim := fun x => by
      rw [Int.fmod_eq_emod_of_nonneg _ (by omega)]
      exact ⟨Int.emod_nonneg _ (by omega), Int.emod_lt_of_pos _ h0⟩
    refine ⟨_, (pss_cons (ps_set (i := 2) sc__law_draw.nd rfl (Or.inl rfl) (pe_ix ix_list (pv 0) pe_int (fun _ _ => rfl)))
    (pss_cons (ps_if (pt_cmpR op_ge (pv 2) (pe_op op_pow pe_int pe_int) (nomark _))
      (pss_cons (ps_asg (pe_op op_fdivN (pv 2) (pv 1)) (pg_sub (pv 0) pe_int set_list))
    (pss_one (ps_ret (pe_op op_modN (pe_callTy (T := "int") call_int1 (by rfl) m_int (by decide +kernel) (pa_cons (pv 2) pa_nil)) (pv 1)))))
      pss_nil)
    (pss_cons (ps_asg (pe_op op_add (pe_ix ix_list (pv 0) pe_int (fun _ _ => rfl)) pe_int) (pg_sub (pv 0) pe_int set_list))
    (pss_cons (ps_set (i := 3) sc__law_draw.nd rfl (Or.inl rfl) (pe_op op_mod (pe_callTy (T := "int") call_int1 (by rfl) m_int (by decide +kernel) (pa_cons (pe_op op_add (pe_op op_add (pe_op op_mul (pv 2) pe_int) (pe_op op_mul (pe_ix ix_list (pv 0) pe_int (fun _ _ => rfl)) pe_int)) pe_int) pa_nil)) pe_int))
    (pss_cons (ps_set (i := 3) sc__law_draw.nd rfl (Or.inl rfl) (pe_op op_mod (pe_callTy (T := "int") call_int1 (by rfl) m_int (by decide +kernel) (pa_cons (pe_op op_add (pe_op op_add (pe_op op_mul (pv 3) (pv 3)) (pv 2)) (pe_op op_mul (pe_ix ix_list (pv 0) pe_int (fun _ _ => rfl)) pe_int)) pa_nil)) pe_int))
    (pss_cons (ps_set (i := 3) sc__law_draw.nd rfl (Or.inl rfl) (pe_op op_mod (pe_callTy (T := "int") call_int1 (by rfl) m_int (by decide +kernel) (pa_cons (pe_op op_add (pe_op op_add (pe_op op_mul (pv 3) (pv 3)) (pe_op op_fdiv (pv 3) pe_int)) pe_int) pa_nil)) pe_int))
    (pss_one (ps_ret (pe_op op_modN (pe_op op_fdiv (pe_callTy (T := "int") call_int1 (by rfl) m_int (by decide +kernel) (pa_cons (pv 3) pa_nil)) pe_int) (pv 1)))))))))), ?_⟩
    walk_at "rd"
    refine ⟨_, _, _, _, rfl, rfl, sq hA, atI_nat (j := 0) rfl, ?_⟩
    walk_at "rd"
    refine ⟨⟨by decide, by decide, by decide⟩, ?_⟩
    walk_at "rd"
    refine ite2 (fun hb => ?_) (fun hb => ?_)
    · walk_at "rd"
      refine ⟨⟨by omega, by omega⟩, ?_⟩
      walk_at "rd"
      refine ⟨_, _, _, 0, rfl, rfl, hA, rfl, ?_⟩
      walk_at "rd"
      refine .inl ⟨_, rfl, ?_⟩
      walk_at "rd"
      refine ⟨by omega, ?_⟩
      exact q _ _ _ (hfm _).1 (hfm _).2
    · walk_at "rd"
      refine ⟨_, _, _, _, rfl, rfl, sq hA, atI_nat (j := 1) rfl, ?_⟩
      walk_at "rd"
      refine ⟨_, _, _, 1, rfl, rfl, hA, rfl, ?_⟩
      -- the first mixing
      walk_at "rd"
      refine ⟨.inr ⟨by decide, by decide⟩, ?_⟩
      walk_at "rd"
      refine ⟨_, _, _, _, rfl, rfl, sq upd_same, atI_nat (j := 1) rfl, ?_⟩
      walk_at "rd"
      refine ⟨.inr ⟨by decide, by decide⟩, ?_⟩
      walk_at "rd"
      refine .inl ⟨_, rfl, ?_⟩
      walk_at "rd"
      refine ⟨by show (0 : Int) < 2147483647; decide, ?_⟩
      -- the second
      walk_at "rd"
      refine ⟨.inl (modb _ (by decide) (by decide)), ?_⟩
      walk_at "rd"
      refine ⟨_, _, _, _, rfl, rfl, sq upd_same, atI_nat (j := 1) rfl, ?_⟩
      walk_at "rd"
      refine ⟨.inr ⟨by decide, by decide⟩, ?_⟩
      walk_at "rd"
      refine .inl ⟨_, rfl, ?_⟩
      walk_at "rd"
      refine ⟨by show (0 : Int) < 2147483629; decide, ?_⟩
      -- the third
      walk_at "rd"
      refine ⟨.inl (modb _ (by decide) (by decide)), ?_⟩
      walk_at "rd"
      refine ⟨⟨by decide, by decide⟩, ?_⟩
      walk_at "rd"
      refine .inl ⟨_, rfl, ?_⟩
      walk_at "rd"
      refine ⟨by show (0 : Int) < 2147483587; decide, ?_⟩
      -- the answer
      walk_at "rd"
      refine .inl ⟨_, rfl, ?_⟩
      walk_at "rd"
      refine ⟨⟨by decide, by decide⟩, ?_⟩
      walk_at "rd"
      refine ⟨by omega, ?_⟩
      exact q _ _ _ (hfm _).1 (hfm _).2
/-- some other source, or none -/
theorem draw_of {H : Hp} {a : Addr} {lim : Int} {Q : VK} {E : XK} (hA : Src H a) (h0 : 0 < lim ∧ lim < 1073741824) (q : ∀ r H', 0 ≤ r → r < lim → SameBut a H H' → Src H' a → Q (.int r) H') : spDraw [.ref a, .int lim] H Q E := by
  obtain ⟨n, c, hA⟩ := hA
  unfold spDraw
  exact ⟨a, n, c, lim, rfl, hA, h0.1, h0.2, fun r n' c' h1 h2 => q r _ h1 h2 SameBut.upd ⟨n', c', upd_same⟩⟩
abbrev CDraw (P : Program) (w : World) (K : PySem.W.Frag) (mg : Str → Option Value) (base : Heap) : Prop := Cal P w K mg base "_law_draw" 1 ["_law_source_here", "_law_limit"] spDraw
/-! ### names -/
/-- a text of a drawn name -/
def Tx (n : Nat) (z : Str) : Prop := 1 ≤ z.length ∧ z.length ≤ n ∧ ∀ c ∈ tl z, c < 0x110000
theorem Tx.le {n m : Nat} {z : Str} (h : Tx n z) (l : n ≤ m) : Tx m z := ⟨h.1, Nat.le_trans h.2.1 l, h.2.2⟩
theorem Tx.ok {n : Nat} {z : Str} (h : Tx n z) : PyData.strOk z = true := by
  unfold PyData.strOk
  rw [Array.all_eq_true']
  intro c hc
  exact decide_eq_true (h.2.2 c (by simpa using hc))
theorem Tx.app {n m : Nat} {x y : Str} (a : Tx n x) (b : y.length ≤ m ∧ ∀ c ∈ tl y, c < 0x110000) : Tx (n + m) (x ++ y) := by
  have e := app_len x y
  refine ⟨by have := a.1; omega, by have := a.2.1; have := b.1; omega, fun c hc => ?_⟩
  rw [tl_append] at hc
  rcases List.mem_append.mp hc with h | h
  · exact a.2.2 c h
  · exact b.2 c h
theorem tx_sign {L : Str} {c : Nat} (h : (tl L).all (fun d => decide (d < 0x110000)) = true) (hc : c ∈ tl L) : Tx 1 (⟨#[c]⟩ : Str) := by
  refine ⟨Nat.le_refl _, Nat.le_refl _, fun d hd => ?_⟩
  have e : d = c := by simpa using hd
  rw [e]
  exact of_decide_eq_true (List.all_eq_true.mp h c hc)
theorem tx_cut {n : Nat} {z : Str} (h : Tx n z) : (cutS z none (some 1)).length ≤ 1 ∧ ∀ c ∈ tl (cutS z none (some 1)), c < 0x110000 := by
  have e : tl (cutS z none (some 1)) = (tl z).take 1 := by
    show ((tl z).drop (HT.sIx z.length 0 none)).take (HT.sIx z.length z.length (some ((1 : Nat) : Int)) - HT.sIx z.length 0 none) = _
    rw [HT.sIx_none, HT.sIx_nat, List.drop_zero, Nat.sub_zero, Nat.min_eq_left h.1]
  refine ⟨?_, fun c hc => ?_⟩
  · rw [len_tl, e]
    exact List.length_take_le ..
  · rw [e] at hc
    exact h.2.2 c (List.mem_of_mem_take hc)
@[irreducible] def spNames (K : PySem.W.Frag) : Sp := fun vs H Q _ => ∃ (s : Addr) (k : Nat), vs = [.ref s, .int (k : Int)] ∧ Src H s ∧ k ≤ 5 ∧ ∀ (p : Addr) (ns : List Str) (H' : Hp), SameBut s H H' → Src H' s → SqT K H' p (ns.map V.str) → Asc ns → (∀ z ∈ ns, Tx 17 z) → ns.length ≤ 5 → Q (.ref p) H'
set_option maxHeartbeats 2000000 in
theorem ok_names {f : Addr} {fd : FuncData} (F : Fun K "_law_names" "_law_names" s__law_names f fd) (m_range : mg "range" = none) (m_len : mg "len" = none) (m_tuple : mg "tuple" = none) (m_sorted : mg "sorted" = none) (C__law_draw : CDraw P w K mg base) : FnOk P w K mg base CX0 2 f fd ["_law_source_here", "_law_most"] (spNames K) := by
  refine F.ok sc__law_names (fun vs H Q E h => ?_) (fun cdv A outer s H vs Q E hr h => ?_)
  · unfold spNames at h
    obtain ⟨s, k, rfl, _⟩ := h
    rfl
  · unfold spNames at h
    obtain ⟨src, k, rfl, hA, hk, q⟩ := h
    refine ⟨_, (pss_cons (ps_set (i := 2) sc__law_names.nd rfl (Or.inl rfl) (pe_lst pa_nil))
    (pss_cons (ps_for PassesOwn.never rfl (pi_range1 (by rfl) m_range (pa_cons (pv 1) pa_nil)) (pg_name (i := 3) sc__law_names.nd rfl (Or.inl rfl))
      (pss_cons (ps_set (i := 4) sc__law_names.nd rfl (Or.inl rfl) (pe_ix ix_str pe_str (pe_cal C__law_draw (hr.mono (by decide)) (pa_cons (pv 0) (pa_cons pe_int pa_nil))) (fun _ _ => rfl)))
    (pss_cons (ps_for PassesOwn.never rfl (pi_range1 (by rfl) m_range (pa_cons (pe_ix ix_list (pe_lst (pa_cons pe_int (pa_cons pe_int (pa_cons pe_int (pa_cons pe_int pa_nil))))) (pe_cal C__law_draw (hr.mono (by decide)) (pa_cons (pv 0) (pa_cons pe_int pa_nil))) (fun _ _ => rfl)) pa_nil)) (pg_name (i := 5) sc__law_names.nd rfl (Or.inl rfl))
      (pss_one (ps_set (i := 4) sc__law_names.nd rfl (Or.inl rfl) (pe_op op_add_str (pv 4) (pe_ix ix_str pe_str (pe_cal C__law_draw (hr.mono (by decide)) (pa_cons (pv 0) (pa_cons pe_int pa_nil))) (fun _ _ => rfl))))))
    (pss_cons (ps_set (i := 6) sc__law_names.nd rfl (Or.inl rfl) (pe_cal C__law_draw (hr.mono (by decide)) (pa_cons (pv 0) (pa_cons pe_int pa_nil))))
    (pss_cons (ps_if (PW.pt (pw_and (pt_cmpR op_eq (pv 6) pe_int (nomark _)) (pw_and1 (pt_cmpR op_gt (pe_callB call_len_seq (by rfl) m_len PySem.boot_len (pa_cons (pv 2) pa_nil)) pe_int (nomark _)))))
      (pss_one (ps_set (i := 4) sc__law_names.nd rfl (Or.inl rfl) (pe_op op_add_str (pe_op op_add_str (pe_ix ix_list (pv 2) pe_int (fun _ _ => rfl)) pe_str) (pv 4))))
      pss_nil)
    (pss_cons (ps_if (PW.pt (pw_and (pt_cmpR op_eq (pv 6) pe_int (nomark _)) (pw_and (pt_cmpR op_gt (pe_callB call_len_seq (by rfl) m_len PySem.boot_len (pa_cons (pv 2) pa_nil)) pe_int (nomark _)) (pw_and1 (pt_cmpR op_lt (pe_callB call_len_str (by rfl) m_len PySem.boot_len (pa_cons (pe_ix ix_list (pv 2) pe_int (fun _ _ => rfl)) pa_nil)) pe_int (nomark _))))))
      (pss_one (ps_set (i := 4) sc__law_names.nd rfl (Or.inl rfl) (pe_op op_add_str (pe_ix ix_list (pv 2) pe_int (fun _ _ => rfl)) (pe_slice sl_str (pv 4) po_none (po_some pe_int)))))
      pss_nil)
    (pss_one (ps_if (PW.pt (pw_and (pt_cmpR op_notIn_seq (pv 4) (pv 2) (by rfl)) (pw_and1 (pt_cmpR op_gt (pe_cal C__law_draw (hr.mono (by decide)) (pa_cons (pv 0) (pa_cons pe_int pa_nil))) pe_int (nomark _)))))
      (pss_one (ps_expr (pe_bm PySem.F.plainAttrs_list PySem.F.slot_list_append PySem.F.type_list_append mt_append (pv 2) (pa_cons (pv 4) pa_nil))))
      pss_nil))))))))
    (pss_one (ps_ret (pe_callTy (T := "tuple") call_tuple_of (by rfl) m_tuple (by decide +kernel) (pa_cons (pe_callB (id := "sorted") cr_sortedS (by rfl) m_sorted (by decide +kernel) (pa_cons (pv 2) pa_nil)) pa_nil)))))), ?_⟩
    walk_at "rd"
    refine ⟨sz (by decide), fun L nL => ?_⟩
    have nLs := src_ne hA nL
    have hL0 := upd_same (H := H) (a := L) (o := .lst (([] : List Str).map V.str))
    have hA0 := src_upd hA nLs (u := .lst (([] : List Str).map V.str))
    have b0 : SameBut src H (upd H L (.lst (([] : List Str).map V.str))) := Bx.Same.but (same_new nL)
    walk_at "rd"
    refine ⟨by omega, by omega, for_it walk_range (fun i σ H' => ∃ (o3 o4 o5 o6 : Option V) (ms : List Str), σ = [some (.ref src), some (.int (k : Int)), some (.ref L), o3, o4, o5, o6] ∧ SameBut src H H' ∧ Src H' src ∧ H' L = some (.lst (ms.map V.str)) ∧ ms.length ≤ i ∧ (∀ z ∈ ms, Tx 17 z) ∧ (∀ z, ms[0]? = some z → Tx 8 z) ∧ ms.Nodup)
      ⟨none, none, none, none, [], rfl, b0, hA0, hL0, Nat.le_refl _, (fun z hz => by cases hz), (fun z hz => by cases hz), List.nodup_nil⟩ (fun _ _ _ _ _ => trivial) ?_ ?_⟩
    · rintro i x σ H1 H1' hi ⟨o3, o4, o5, o6, ms, rfl, s1, hA1, hL1, hml, t17, t8, nd⟩ ⟨rfl, rfl⟩
      have hi5 : i < 5 := by omega
      walk_at "rd"
      refine draw_of (lim := 26) hA1 (by decide) fun r H2 h0 h1 s2 hA2 => ?_
      obtain ⟨c, hc, hm⟩ := pick (L := "abcdefghijklmnopqrstuvwxyz") h0 h1
      have tc := tx_sign (by decide +kernel) hm
      refine ⟨_, _, _, rfl, rfl, (by decide), hc, ?_⟩
      walk_at "rd"
      refine ⟨sz (by decide), fun l0 nl0 => ?_⟩
      have nl0s := src_ne hA2 nl0
      have hl0 := upd_same (H := H2) (a := l0) (o := .lst ([0, 0, 1, 7].map V.int))
      walk_at "rd"
      refine draw_of (lim := 4) (src_upd hA2 nl0s) (by decide) fun r4 H3 h2 h3 s3 hA3 => ?_
      have hl3 := s3 _ _ nl0s.symm hl0
      obtain ⟨m, rfl⟩ := Int.eq_ofNat_of_zero_le h2
      have hm4 : m < [(0 : Int), 0, 1, 7].length := by
        show m < 4
        omega
      refine ⟨_, _, _, _, rfl, rfl, sq hl3, int_at (k := m) hm4, ?_⟩
      have he : (0 : Int) ≤ [(0 : Int), 0, 1, 7][m] ∧ [(0 : Int), 0, 1, 7][m] ≤ 7 := by
        have a : ∀ x ∈ [(0 : Int), 0, 1, 7], 0 ≤ x ∧ x ≤ 7 := by decide
        exact a _ (List.getElem_mem hm4)
      generalize [(0 : Int), 0, 1, 7][m] = e at he ⊢
      have b3 : SameBut src H1' H3 := s2.trans (but_new nl0 s3)
      have nLH1 : ∀ {H' : Hp}, SameBut src H1' H' → H' L = some (.lst (ms.map V.str)) := fun s => s _ _ nLs.symm hL1
      walk_at "rd"
      refine ⟨by omega, by omega, for_it walk_range (fun j σ H' => ∃ (o5 : Option V) (z : Str), σ = [some (.ref src), some (.int (k : Int)), some (.ref L), some (.int (0 + (i : Nat))), some (.str z), o5, o6] ∧ SameBut src H1' H' ∧ Src H' src ∧ Tx (1 + j) z)
        ⟨o5, _, rfl, b3, hA3, tc⟩ (fun _ _ _ _ _ => trivial) ?_ ?_⟩
      · rintro j y σ H4 H4' hj ⟨o5, z, rfl, s4, hA4, tz⟩ ⟨rfl, rfl⟩
        walk_at "rd"
        refine draw_of (lim := 36) hA4 (by decide) fun r5 H5 h4 h5 s5 hA5 => ?_
        obtain ⟨c, hc, hm⟩ := pick (L := "abcdefghijklmnopqrstuvwxyz0123456789") h4 h5
        have tc2 := tx_sign (by decide +kernel) hm
        refine ⟨_, _, _, rfl, rfl, (by decide), hc, ?_⟩
        walk_at "rd"
        have tn := tz.app (m := 1) ⟨tc2.2.1, tc2.2.2⟩
        refine ⟨szl (by have := tz.2.1; have := tc2.2.1; omega), ?_⟩
        exact ⟨_, _, rfl, s4.trans s5, hA5, by rw [← Nat.add_assoc]; exact tn⟩
      rintro σ H4 ⟨o5, z, rfl, s4, hA4, tz⟩
      have tz8 : Tx 8 z := tz.le (by omega)
      walk_at "rd"
      refine draw_of (lim := 6) hA4 (by decide) fun r6 H5 h4 h5 s5 hA5 => ?_
      have b5 := s4.trans s5
      have hL5 := nLH1 b5
      have first : 0 < ms.length → ∃ z0, ms[0]? = some z0 ∧ atI (ms.map V.str) 0 = some (.str z0) ∧ Tx 8 z0 := fun h => by
        have e := List.getElem?_eq_getElem h
        exact ⟨ms[0], e, atI_nat (j := 0) (by rw [List.getElem?_map, e]; rfl), t8 _ e⟩
      dsimp only [gName]
      refine st_gi (i := 4) (fun v H' => H' = H5 ∧ ∃ z', v = .str z' ∧ Tx 17 z' ∧ (ms.length = 0 → Tx 8 z')) (fun D' hD' => ?_) ?_
      · have keep := hD' (.str z) H5 ⟨rfl, z, rfl, tz8.le (by decide), fun _ => tz8⟩
        walk_at "rd"
        refine ite2 (fun h6 => ?_) (fun h6 => ?_)
        · walk_at "rd"
          refine ⟨_, _, rfl, .inl (sq hL5), ?_⟩
          walk_at "rd"
          refine ite2 (fun h7 => ?_) (fun h7 => ?_)
          · have h8 : 0 < ms.length := by
              have z1 : (0 : Int) < ((ms.map V.str).length : Nat) := of_decide_eq_true h7
              rw [List.length_map] at z1
              omega
            obtain ⟨z0, e0, a0, t0⟩ := first h8
            walk_at "rd"
            refine ⟨_, _, _, _, rfl, rfl, sq hL5, a0, ?_⟩
            walk_at "rd"
            have td := t0.app (m := 1) (y := Str.ofString ".") ⟨by decide +kernel, by decide +kernel⟩
            refine ⟨szl (by have := td.2.1; rw [app_len] at this; omega), ?_⟩
            walk_at "rd"
            have te := td.app (m := 8) ⟨tz8.2.1, tz8.2.2⟩
            refine ⟨sz (show (z0 ++ Str.ofString ".").length + z.length ≤ 100000 by have := te.2.1; rw [app_len] at this; omega), ?_⟩
            exact hD' _ H5 ⟨rfl, _, rfl, te, fun h => absurd h (by omega)⟩
          · walk_at "rd"
            exact keep
        · walk_at "rd"
          exact keep
      rintro v H6 ⟨rfl, z1, rfl, tz1, tz10⟩
      refine st_gi (i := 4) (fun v H' => H' = H6 ∧ ∃ z', v = .str z' ∧ Tx 17 z' ∧ (ms.length = 0 → Tx 8 z')) (fun D' hD' => ?_) ?_
      · have keep := hD' (.str z1) H6 ⟨rfl, z1, rfl, tz1, tz10⟩
        walk_at "rd"
        refine ite2 (fun h6 => ?_) (fun h6 => ?_)
        · walk_at "rd"
          refine ⟨_, _, rfl, .inl (sq hL5), ?_⟩
          walk_at "rd"
          refine ite2 (fun h7 => ?_) (fun h7 => ?_)
          · have h8 : 0 < ms.length := by
              have z1 : (0 : Int) < ((ms.map V.str).length : Nat) := of_decide_eq_true h7
              rw [List.length_map] at z1
              omega
            obtain ⟨z0, e0, a0, t0⟩ := first h8
            walk_at "rd"
            refine ⟨_, _, _, _, rfl, rfl, sq hL5, a0, ?_⟩
            walk_at "rd"
            refine ⟨sz (by have := t0.2.1; omega), ?_⟩
            walk_at "rd"
            refine ite2 (fun h9 => ?_) (fun h9 => ?_)
            · walk_at "rd"
              refine ⟨_, _, _, _, rfl, rfl, sq hL5, a0, ?_⟩
              walk_at "rd"
              refine ⟨sz (by have := tz1.2.1; omega), ?_⟩
              walk_at "rd"
              have te := t0.app (m := 1) (tx_cut tz1)
              refine ⟨sz (show z0.length + (cutS z1 none (some 1)).length ≤ 100000 by have := te.2.1; rw [app_len] at this; omega), ?_⟩
              exact hD' _ H6 ⟨rfl, _, rfl, te.le (by decide), fun h => absurd h (by omega)⟩
            · walk_at "rd"
              exact keep
          · walk_at "rd"
            exact keep
        · walk_at "rd"
          exact keep
      rintro v H7 ⟨rfl, z2, rfl, tz2, tz20⟩
      walk_at "rd"
      refine ⟨L, _, rfl, .inl (sq hL5), rfl, Bx.flat_all _, ?_⟩
      rw [Bx.inV_str]
      refine ⟨_, rfl, ite2 (fun h6 => ?_) (fun h6 => ?_)⟩
      · have nin : z2 ∉ ms := fun h => by
          rw [if_pos rfl] at h6
          simp [h] at h6
        walk_at "rd"
        refine draw_of (lim := 6) hA5 (by decide) fun r7 H8 _ _ s8 hA8 => ?_
        have b8 := b5.trans s8
        have hL8 := nLH1 b8
        walk_at "rd"
        refine ite2 (fun h7 => ?_) (fun h7 => ?_)
        · walk_at "rd"
          refine ⟨.inl ⟨rfl, _, sq hL8⟩, ?_⟩
          walk_at "rd"
          refine ⟨L, _, _, rfl, rfl, hL8, szl (by rw [List.length_map]; omega), ?_⟩
          refine ⟨_, _, _, _, ms ++ [z2], rfl, but_at nL (s1.trans b8), src_upd hA8 nLs, by rw [upd_same, List.map_append]; rfl, by rw [List.length_append]; show ms.length + 1 ≤ i + 1; omega, fun x hx => ?_, fun x hx => ?_, ?_⟩
          · rcases List.mem_append.mp hx with h | h
            · exact t17 x h
            · rw [List.mem_singleton.mp h]
              exact tz2
          · rcases Nat.eq_zero_or_pos ms.length with h | h
            · have e : ms = [] := List.length_eq_zero_iff.mp h
              subst e
              have e2 : z2 = x := Option.some.inj hx
              rw [← e2]
              exact tz20 rfl
            · rw [List.getElem?_append_left h] at hx
              exact t8 x hx
          · rw [List.nodup_append]
            refine ⟨nd, List.nodup_cons.mpr ⟨List.not_mem_nil, List.nodup_nil⟩, fun a ha b hb e => ?_⟩
            rw [List.mem_singleton.mp hb] at e
            exact nin (by rw [← e]; exact ha)
        · walk_at "rd"
          exact ⟨_, _, _, _, ms, rfl, s1.trans b8, hA8, hL8, by omega, t17, t8, nd⟩
      · walk_at "rd"
        exact ⟨_, _, _, _, ms, rfl, s1.trans b5, hA5, hL5, by omega, t17, t8, nd⟩
    · rintro σ H1 ⟨o3, o4, o5, o6, ms, rfl, s1, hA1, hL1, hml, t17, t8, nd⟩
      walk_at "rd"
      have hml5 : ms.length ≤ 5 := by omega
      refine ⟨L, ms, rfl, sq hL1, by omega, fun ys p pm st np => ?_⟩
      have u1 := same_new np (o := .lst (ys.map V.str))
      have hp := upd_same (H := H1) (a := p) (o := .lst (ys.map V.str))
      generalize upd H1 p (.lst (ys.map V.str)) = H2 at u1 hp ⊢
      refine ⟨p, _, rfl, .inl ⟨sq hp, fun r nr => ?_⟩⟩
      have u2 := same_new nr (o := .tup (ys.map V.str))
      have u := u1.trans u2
      exact q r ys _ (s1.trans (Bx.Same.but u)) (src_same hA1 u) (sqt upd_same) (asc_of st (pm.nodup_iff.mpr nd)) (fun x hx => t17 x (pm.mem_iff.mp hx)) (by rw [pm.length_eq]; exact hml5)
end
end K08
namespace K08
local macro_rules | `(tactic| walk_at "rd") => `(tactic| repeat (first | refine ⟨rfl, ?_⟩ | refine ⟨_, rfl, ?_⟩ | refine ⟨_, _, rfl, rfl, ?_⟩ | refine ⟨⟨_, rfl⟩, ?_⟩))
open PySem PySem.Spec PyProof.Rows L2 Bx TL Dx Zx Ow Sup NdefX Px
/-! ### lines -/
inductive Ln where
  | giv (i : Int)
  | cut (i j : Int) (n : Str)
deriving DecidableEq
def lnD : Ln → PyData
  | .giv i => .tuple [.str (Str.ofString "given"), .int i]
  | .cut i j n => .tuple [.str (Str.ofString "cut"), .int i, .int j, .str n]
/-- the clause at a place, if there is one -/
def clAt (cs : List Cl) (i : Int) : Option Cl := if 0 ≤ i then cs[i.toNat]? else none
/-- what a line derives -/
def Der (cs bs : List Cl) : Ln → Option Cl → Prop
  | .giv i, o => o = clAt cs i
  | .cut i j n, o => match clAt bs i, clAt bs j with
    | some c, some d => if (n, (1 : Int)) ∈ c ∧ (n, (0 : Int)) ∈ d then IsRes c d n o else o = none
    | _, _ => o = none
theorem clAt_mem {cs : List Cl} {i : Int} {c : Cl} (h : clAt cs i = some c) : c ∈ cs := by
  unfold clAt at h
  split at h
  · exact List.mem_of_getElem? h
  · cases h
section
variable {P : Program} {w : World} {K : PySem.W.Frag} {mg : Str → Option Value} {base : Heap}
theorem od_of {H : Hp} {xs : List V} {cs : List Cl} (hd : DpAll K H xs (cs.map clD)) {i : Nat} {v : V} (h : xs[i]? = some v) : ∃ c, cs[i]? = some c ∧ OD K H v (some c) := by
  obtain ⟨c, h1, h2⟩ := da_atM hd h
  exact ⟨c, h1, h2⟩
@[irreducible] def spClAt (K : PySem.W.Frag) : Sp := fun vs H Q _ => ∃ (p : Addr) (xs : List V) (cs : List Cl) (i : Int), vs = [.ref p, .int i] ∧ (SqL K H p xs ∨ SqT K H p xs) ∧ DpAll K H xs (cs.map clD) ∧ i.natAbs < 1000000 ∧ cs.length ≤ 1000 ∧ ∀ v, OD K H v (clAt cs i) → Q v H
theorem ok_clause_at {f : Addr} {fd : FuncData} (F : Fun K "_clause_at" "_clause_at" s__clause_at f fd) (m_len : mg "len" = none) : FnOk P w K mg base CX0 1 f fd ["clauses", "index"] (spClAt K) := by
  refine F.ok sc__clause_at (fun vs H Q E h => ?_) (fun cdv A outer s H vs Q E hr h => ?_)
  · unfold spClAt at h
    obtain ⟨p, xs, cs, i, rfl, _⟩ := h
    rfl
  · unfold spClAt at h
    obtain ⟨p, xs, cs, i, rfl, hp, hd, hi, hl, q⟩ := h
    have xl : xs.length = cs.length := by rw [da_len hd, List.length_map]
    refine ⟨_, (pss_one (ps_ret (pe_ifExp (pt_chain op_le op_lt pe_int (pv 1) (pe_callB call_len_seq (by rfl) m_len PySem.boot_len (pa_cons (pv 0) pa_nil))) (pe_ix ix_seq (pv 0) (pv 1) (fun _ _ => rfl)) pe_non))), ?_⟩
    walk_at "rd"
    have none' : clAt cs i = none → Q .non H := fun e => q .non (by rw [e]; rfl)
    refine ite2 (fun h6 => ?_) (fun h6 => ?_)
    · have h0 : 0 ≤ i := of_decide_eq_true h6
      walk_at "rd"
      refine ⟨p, xs, rfl, hp, ?_⟩
      walk_at "rd"
      refine ite2 (fun h7 => ?_) (fun h7 => ?_)
      · have h1 : i < (xs.length : Int) := of_decide_eq_true h7
        walk_at "rd"
        obtain ⟨n, rfl⟩ := Int.eq_ofNat_of_zero_le h0
        have hn : n < xs.length := by omega
        have ev := List.getElem?_eq_getElem hn
        obtain ⟨c, hc, hov⟩ := od_of hd ev
        have ec : clAt cs (n : Int) = some c := by
          unfold clAt
          rw [if_pos h0]
          exact hc
        have fin := q xs[n] (by rw [ec]; exact hov)
        rcases hp with hp | hp
        · exact .inl ⟨_, _, _, _, rfl, rfl, hp, atI_nat ev, fin⟩
        · exact .inr (.inl ⟨_, _, _, _, rfl, rfl, hp, atI_nat ev, fin⟩)
      · have h1 : ¬ i < (xs.length : Int) := of_decide_eq_false (by simpa using h7)
        walk_at "rd"
        refine none' ?_
        unfold clAt
        rw [if_pos h0]
        exact List.getElem?_eq_none (by omega)
    · have h0 : ¬ 0 ≤ i := of_decide_eq_false (by simpa using h6)
      walk_at "rd"
      refine none' ?_
      unfold clAt
      rw [if_neg h0]
/-- the line at v -/
def LnAt (K : PySem.W.Frag) (H : Hp) (v : V) (x : Ln) : Prop := Dp K H v (lnD x)
def OkLn : Ln → Prop
  | .giv i => i.natAbs < 1000000
  | .cut i j n => i.natAbs < 1000000 ∧ j.natAbs < 1000000 ∧ PyData.strOk n = true
def VCs (cs : List Cl) : Prop := ∀ c ∈ cs, OkC c ∧ c.length ≤ 20
@[irreducible] def spDer (K : PySem.W.Frag) : Sp := fun vs H Q _ => ∃ (p b : Addr) (v : V) (xs ys : List V) (cs bs : List Cl) (ln : Ln), vs = [.ref p, .ref b, v] ∧ SqT K H p xs ∧ DpAll K H xs (cs.map clD) ∧ SqL K H b ys ∧ DpAll K H ys (bs.map clD) ∧ Dp K H v (lnD ln) ∧ OkLn ln ∧ VCs cs ∧ VCs bs ∧ cs.length ≤ 1000 ∧ bs.length ≤ 1000 ∧
  ∀ (v : V) (o : Option Cl) (H' : Hp), Same H H' → Der cs bs ln o → OD K H' v o → Q v H'
theorem ok_derived {f : Addr} {fd : FuncData} (F : Fun K "_derived" "_derived" s__derived f fd) (C__clause_at : Cal P w K mg base "_clause_at" 1 ["clauses", "index"] (spClAt K)) (C_resolvent : Cal P w K mg base "resolvent" 1 ["first", "second", "name"] (spRes K)) : FnOk P w K mg base CX0 2 f fd ["clauses", "before", "line"] (spDer K) := by
  refine F.ok sc__derived (fun vs H Q E h => ?_) (fun cdv A outer s H vs Q E hr h => ?_)
  · unfold spDer at h
    obtain ⟨p, b, v, xs, ys, cs, bs, ln, rfl, _⟩ := h
    rfl
  · unfold spDer at h
    obtain ⟨p, b, v, xs, ys, cs, bs, ln, rfl, hp, hd, hb, hbd, hln, okl, vc, vb, lc, lb, q⟩ := h
    refine ⟨_, (pss_cons (ps_if (pt_cmpR op_eq (pe_ix ix_tup (pv 2) pe_int (fun _ _ => rfl)) pe_str (nomark _))
      (pss_one (ps_ret (pe_cal C__clause_at (hr.mono (by decide)) (pa_cons (pv 0) (pa_cons (pe_ix ix_tup (pv 2) pe_int (fun _ _ => rfl)) pa_nil)))))
      pss_nil)
    (pss_cons (ps_asg (pv 2) (pg_tup rfl (pgs_cons (pg_name (i := 5) sc__derived.nd rfl (Or.inl rfl)) (pgs_cons (pg_name (i := 6) sc__derived.nd rfl (Or.inl rfl)) (pgs_cons (pg_name (i := 7) sc__derived.nd rfl (Or.inl rfl)) (pgs_cons (pg_name (i := 8) sc__derived.nd rfl (Or.inl rfl)) pgs_nil))))))
    (pss_cons (ps_set (i := 3) sc__derived.nd rfl (Or.inl rfl) (pe_cal C__clause_at (hr.mono (by decide)) (pa_cons (pv 1) (pa_cons (pv 6) pa_nil))))
    (pss_cons (ps_set (i := 4) sc__derived.nd rfl (Or.inl rfl) (pe_cal C__clause_at (hr.mono (by decide)) (pa_cons (pv 1) (pa_cons (pv 7) pa_nil))))
    (pss_cons (ps_if (PW.pt (pw_or (pt_cmpR op_isN (pv 3) pe_non (nomark _)) (pw_or1 (pt_cmpR op_isN (pv 4) pe_non (nomark _)))))
      (pss_one (ps_ret pe_non))
      pss_nil)
    (pss_cons (ps_if (PW.pt (pw_or (pt_cmpR (Sl.op_notInT (K := K) rfl (room hr)) (pe_tup (pa_cons (pv 8) (pa_cons pe_int pa_nil))) (pv 3) (by rfl)) (pw_or1 (pt_cmpR (Sl.op_notInT (K := K) rfl (room hr)) (pe_tup (pa_cons (pv 8) (pa_cons pe_int pa_nil))) (pv 4) (by rfl)))))
      (pss_one (ps_ret pe_non))
      pss_nil)
    (pss_one (ps_ret (pe_cal C_resolvent (hr.mono (by decide)) (pa_cons (pv 3) (pa_cons (pv 4) (pa_cons (pv 8) pa_nil)))))))))))), ?_⟩
    walk_at "rd"
    cases ln with
    | giv i =>
      obtain ⟨t, us, rfl, ht, ha⟩ := dp_tup hln
      cases ha with
      | cons a1 ha =>
      cases ha with
      | cons a2 ha =>
      cases ha
      cases a1
      cases a2
      refine ⟨_, _, _, _, rfl, rfl, ht, atI_nat (j := 0) rfl, ?_⟩
      walk_at "rd"
      refine ⟨_, _, _, _, rfl, rfl, ht, atI_nat (j := 1) rfl, ?_⟩
      walk_at "rd"
      show spClAt K _ _ _ _
      unfold spClAt
      exact ⟨p, xs, cs, i, rfl, .inr hp, hd, okl, lc, fun v hv => q v _ H (Same.refl H) rfl hv⟩
    | cut i j n =>
      obtain ⟨t, us, rfl, ht, ha⟩ := dp_tup hln
      cases ha with
      | cons a1 ha =>
      cases ha with
      | cons a2 ha =>
      cases ha with
      | cons a3 ha =>
      cases ha with
      | cons a4 ha =>
      cases ha
      cases a1
      cases a2
      cases a3
      cases a4
      refine ⟨_, _, _, _, rfl, rfl, ht, atI_nat (j := 0) rfl, ?_⟩
      walk_at "rd"
      refine ⟨_, _, rfl, ht, rfl, _, _, rfl, _, _, rfl, _, _, rfl, _, _, rfl, rfl, ?_⟩
      walk_at "rd"
      show spClAt K _ _ _ _
      unfold spClAt
      refine ⟨b, ys, bs, i, rfl, .inl hb, hbd, okl.1, lb, fun v1 hv1 => ?_⟩
      walk_at "rd"
      refine ⟨b, ys, bs, j, rfl, .inl hb, hbd, okl.2.1, lb, fun v2 hv2 => ?_⟩
      walk_at "rd"
      cases h1 : clAt bs i with
      | none =>
        rw [h1] at hv1
        have e1 : v1 = .non := hv1
        subst e1
        refine ite2 (fun _ => ?_) (fun h => absurd (show decide (V.non = V.non) = true by simp) h)
        walk_at "rd"
        refine q .non none H (Same.refl H) ?_ rfl
        show (match clAt bs i, clAt bs j with | some c, some d => _ | _, _ => none = none)
        rw [h1]
      | some c =>
        rw [h1] at hv1
        have d1 : Dp K H v1 (clD c) := hv1
        obtain ⟨b1, zs1, rfl, _⟩ := dp_tup d1
        refine ite2 (fun h => absurd h (by simp)) (fun _ => ?_)
        walk_at "rd"
        cases h2 : clAt bs j with
        | none =>
          rw [h2] at hv2
          have e1 : v2 = .non := hv2
          subst e1
          refine ite2 (fun _ => ?_) (fun h => absurd (show decide (V.non = V.non) = true by simp) h)
          walk_at "rd"
          refine q .non none H (Same.refl H) ?_ rfl
          show (match clAt bs i, clAt bs j with | some c, some d => _ | _, _ => none = none)
          rw [h1, h2]
        | some d =>
          rw [h2] at hv2
          have d2 : Dp K H v2 (clD d) := hv2
          obtain ⟨b2, zs2, rfl, _⟩ := dp_tup d2
          refine ite2 (fun h => absurd h (by simp)) (fun _ => ?_)
          walk_at "rd"
          have vcc := vb c (clAt_mem h1)
          have vcd := vb d (clAt_mem h2)
          have on := okl.2.2
          have noD : ¬ ((n, (1 : Int)) ∈ c ∧ (n, (0 : Int)) ∈ d) → Der cs bs (.cut i j n) none := fun h => by
            show (match clAt bs i, clAt bs j with | some c, some d => if (n, (1 : Int)) ∈ c ∧ (n, (0 : Int)) ∈ d then IsRes c d n none else none = none | _, _ => none = none)
            rw [h1, h2]
            show (if (n, (1 : Int)) ∈ c ∧ (n, (0 : Int)) ∈ d then IsRes c d n none else none = none)
            rw [if_neg h]
          refine ⟨sz (by show 2 ≤ 100000; decide), fun T1 nT => ?_⟩
          have s1 := same_new nT (o := .tup [.str n, .int 1])
          have hT := upd_same (H := H) (a := T1) (o := .tup [.str n, .int 1])
          generalize upd H T1 (.tup [.str n, .int 1]) = H1 at s1 hT ⊢
          walk_at "rd"
          refine ⟨litD (n, 1), c.map litD, dp_lit (sqt hT), dp_same s1 d1, sh_lit (l := (n, 1)) on, sh_cl vcc.1, ?_⟩
          rw [any_lit]
          by_cases m1 : (n, (1 : Int)) ∈ c
          · rw [decide_eq_true m1]
            walk_at "rd"
            refine ⟨sz (by show 2 ≤ 100000; decide), fun T2 nT2 => ?_⟩
            have s2 := s1.trans (same_new nT2 (o := .tup [.str n, .int 0]))
            have hT2 := upd_same (H := H1) (a := T2) (o := .tup [.str n, .int 0])
            generalize upd H1 T2 (.tup [.str n, .int 0]) = H2 at s2 hT2 ⊢
            walk_at "rd"
            refine ⟨litD (n, 0), d.map litD, dp_lit (sqt hT2), dp_same s2 d2, sh_lit (l := (n, 0)) on, sh_cl vcd.1, ?_⟩
            rw [any_lit]
            by_cases m2 : (n, (0 : Int)) ∈ d
            · rw [decide_eq_true m2]
              walk_at "rd"
              show spRes K _ _ _ _
              unfold spRes
              refine ⟨b1, b2, c, d, n, rfl, dp_same s2 d1, dp_same s2 d2, vcc.1, vcd.1, on, vcc.2, vcd.2, fun v o H' s' hres hov => ?_⟩
              refine q v o H' (s2.trans s') ?_ hov
              show (match clAt bs i, clAt bs j with | some c, some d => if (n, (1 : Int)) ∈ c ∧ (n, (0 : Int)) ∈ d then IsRes c d n o else o = none | _, _ => o = none)
              rw [h1, h2]
              show (if (n, (1 : Int)) ∈ c ∧ (n, (0 : Int)) ∈ d then IsRes c d n o else o = none)
              rw [if_pos ⟨m1, m2⟩]
              exact hres
            · rw [decide_eq_false m2]
              walk_at "rd"
              exact q .non none H2 s2 (noD fun h => m2 h.2) rfl
          · rw [decide_eq_false m1]
            walk_at "rd"
            exact q .non none H1 s1 (noD fun h => m1 h.1) rfl
/-- the clauses that the lines derive, or none of them -/
inductive Run (cs : List Cl) : List Cl → List Ln → Option (List Cl) → Prop
  | done (bs) : Run cs bs [] (some bs)
  | stop {bs ln lns} : Der cs bs ln none → Run cs bs (ln :: lns) none
  | step {bs ln lns c r} : Der cs bs ln (some c) → Run cs (bs ++ [c]) lns r → Run cs bs (ln :: lns) r
end
end K08
namespace K08
local macro_rules | `(tactic| walk_at "rd") => `(tactic| repeat (first | refine ⟨rfl, ?_⟩ | refine ⟨_, rfl, ?_⟩ | refine ⟨_, _, rfl, rfl, ?_⟩ | refine ⟨⟨_, rfl⟩, ?_⟩))
open PySem PySem.Spec PyProof.Rows L2 Bx TL Dx Zx Ow Sup NdefX Px
/-- a clause over the names ns, in the form that the program keeps -/
def Vc (ns : List Str) (c : Cl) : Prop := Up c ∧ ∀ l ∈ c, l.1 ∈ ns ∧ (l.2 = 0 ∨ l.2 = 1)
theorem vc_ok {ns : List Str} (tx : ∀ z ∈ ns, Tx 17 z) (nl : ns.length ≤ 20) {c : Cl} (v : Vc ns c) : OkC c ∧ c.length ≤ 20 := by
  refine ⟨fun x hx => (tx x.1 (v.2 x hx).1).ok, ?_⟩
  have nd : (c.map (·.1)).Nodup := List.pairwise_map.mpr (v.1.imp fun {a b} (z : a.1.cps.toList < b.1.cps.toList) (e : a.1 = b.1) => List.lt_irrefl b.1.cps.toList (by rw [e] at z; exact z))
  have q := nodup_le (c.map (·.1)) ns nd fun s hs => by
    obtain ⟨l, hl, rfl⟩ := List.mem_map.mp hs
    exact (v.2 l hl).1
  rw [List.length_map] at q
  omega
theorem lits_mem {c d : Cl} {n : Str} {x : Lit} : x ∈ lits c d n ↔ (x ∈ c ∧ x ≠ (n, 1)) ∨ (x ∈ d ∧ x ≠ (n, 0)) := by
  unfold lits
  rw [List.mem_append, List.mem_filter, List.mem_filter, decide_eq_true_iff, decide_eq_true_iff]
theorem res_vc {ns : List Str} {c d e : Cl} {n : Str} (vc : Vc ns c) (vd : Vc ns d) (h : IsRes c d n (some e)) : Vc ns e := ⟨h.2, fun l hl => by
  rcases lits_mem.mp ((h.1 l).mp hl) with z | z
  · exact vc.2 l z.1
  · exact vd.2 l z.1⟩
theorem der_vc {ns : List Str} {cs bs : List Cl} (hc : ∀ c ∈ cs, Vc ns c) (hb : ∀ c ∈ bs, Vc ns c) : ∀ {ln : Ln} {e : Cl}, Der cs bs ln (some e) → Vc ns e
  | .giv i, e, h => hc e (clAt_mem (show clAt cs i = some e from h.symm))
  | .cut i j n, e, h => by
    have h' : (match clAt bs i, clAt bs j with | some c, some d => if (n, (1 : Int)) ∈ c ∧ (n, (0 : Int)) ∈ d then IsRes c d n (some e) else some e = none | _, _ => some e = none) := h
    cases h1 : clAt bs i with
    | none =>
      rw [h1] at h'
      cases h'
    | some c =>
      cases h2 : clAt bs j with
      | none =>
        rw [h1, h2] at h'
        cases h'
      | some d =>
        rw [h1, h2] at h'
        have h3 : if (n, (1 : Int)) ∈ c ∧ (n, (0 : Int)) ∈ d then IsRes c d n (some e) else some e = none := h'
        split at h3
        · exact res_vc (hb c (clAt_mem h1)) (hb d (clAt_mem h2)) h3
        · cases h3
/-- a resolvent is one -/
theorem up_same : ∀ {c d : Cl}, Up c → Up d → (∀ x, x ∈ c ↔ x ∈ d) → c = d
  | [], [], _, _, _ => rfl
  | [], y :: d, _, _, h => absurd ((h y).mpr (List.mem_cons_self ..)) List.not_mem_nil
  | x :: c, [], _, _, h => absurd ((h x).mp (List.mem_cons_self ..)) List.not_mem_nil
  | x :: c, y :: d, uc, ud, h => by
    obtain ⟨c1, c2⟩ := List.pairwise_cons.mp uc
    obtain ⟨d1, d2⟩ := List.pairwise_cons.mp ud
    have e : x = y := by
      rcases List.mem_cons.mp ((h x).mp (List.mem_cons_self ..)) with e | e
      · exact e
      · rcases List.mem_cons.mp ((h y).mpr (List.mem_cons_self ..)) with e2 | e2
        · exact e2.symm
        · exact absurd (List.lt_trans (d1 x e) (c1 y e2)) (List.lt_irrefl _)
    subst e
    have nx : ∀ z ∈ c, z ≠ x := fun z hz e => by
      have q := c1 z hz
      rw [e] at q
      exact List.lt_irrefl _ q
    have ny : ∀ z ∈ d, z ≠ x := fun z hz e => by
      have q := d1 z hz
      rw [e] at q
      exact List.lt_irrefl _ q
    rw [up_same c2 d2 fun z => ⟨fun hz => (List.mem_cons.mp ((h z).mp (List.mem_cons_of_mem _ hz))).resolve_left (nx z hz), fun hz => (List.mem_cons.mp ((h z).mpr (List.mem_cons_of_mem _ hz))).resolve_left (ny z hz)⟩]
theorem up_one : ∀ {c : Cl}, Up c → ∀ x ∈ c, ∀ y ∈ c, x.1 = y.1 → x = y := by
  intro c
  induction c with
  | nil => exact fun _ x hx => nomatch hx
  | cons z c ih =>
    intro up x hx y hy e
    obtain ⟨u1, u2⟩ := List.pairwise_cons.mp up
    rcases List.mem_cons.mp hx with q1 | q1
    · rcases List.mem_cons.mp hy with q2 | q2
      · rw [q1, q2]
      · have z1 := u1 y q2
        rw [← q1, e] at z1
        exact absurd z1 (List.lt_irrefl _)
    · rcases List.mem_cons.mp hy with q2 | q2
      · have z1 := u1 x q1
        rw [← q2, e] at z1
        exact absurd z1 (List.lt_irrefl _)
      · exact ih u2 x q1 y q2 e
theorem res_one {c d : Cl} {n : Str} : ∀ {o o' : Option Cl}, IsRes c d n o → IsRes c d n o' → o = o'
  | none, none, _, _ => rfl
  | some e, some f, h, g => by rw [up_same h.2 g.2 fun x => (h.1 x).trans (g.1 x).symm]
  | none, some f, ⟨x, hx, y, hy, e, ne⟩, g => absurd (up_one g.2 x ((g.1 x).mpr hx) y ((g.1 y).mpr hy) e) ne
  | some f, none, g, ⟨x, hx, y, hy, e, ne⟩ => absurd (up_one g.2 x ((g.1 x).mpr hx) y ((g.1 y).mpr hy) e) ne
theorem der_one {cs bs : List Cl} : ∀ {ln : Ln} {o o' : Option Cl}, Der cs bs ln o → Der cs bs ln o' → o = o'
  | .giv i, o, o', h, g => (show o = clAt cs i from h).trans (show o' = clAt cs i from g).symm
  | .cut i j n, o, o', h, g => by
    have h' : (match clAt bs i, clAt bs j with | some c, some d => if (n, (1 : Int)) ∈ c ∧ (n, (0 : Int)) ∈ d then IsRes c d n o else o = none | _, _ => o = none) := h
    have g' : (match clAt bs i, clAt bs j with | some c, some d => if (n, (1 : Int)) ∈ c ∧ (n, (0 : Int)) ∈ d then IsRes c d n o' else o' = none | _, _ => o' = none) := g
    cases h1 : clAt bs i with
    | none =>
      rw [h1] at h' g'
      exact (show o = none from h').trans (show o' = none from g').symm
    | some c =>
      cases h2 : clAt bs j with
      | none =>
        rw [h1, h2] at h' g'
        exact (show o = none from h').trans (show o' = none from g').symm
      | some d =>
        rw [h1, h2] at h' g'
        have h3 : if (n, (1 : Int)) ∈ c ∧ (n, (0 : Int)) ∈ d then IsRes c d n o else o = none := h'
        have g3 : if (n, (1 : Int)) ∈ c ∧ (n, (0 : Int)) ∈ d then IsRes c d n o' else o' = none := g'
        by_cases m : (n, (1 : Int)) ∈ c ∧ (n, (0 : Int)) ∈ d
        · rw [if_pos m] at h3 g3
          exact res_one h3 g3
        · rw [if_neg m] at h3 g3
          rw [h3, g3]
theorem run_one {cs : List Cl} : ∀ {bs : List Cl} {lns : List Ln} {r r' : Option (List Cl)}, Run cs bs lns r → Run cs bs lns r' → r = r' := by
  intro bs lns r r' h
  induction h generalizing r' with
  | done bs =>
    intro g
    cases g
    rfl
  | stop d =>
    intro g
    cases g with
    | stop _ => rfl
    | step d2 _ => exact absurd (der_one d d2) (by simp)
  | step d _ ih =>
    intro g
    cases g with
    | stop d2 => exact absurd (der_one d d2) (by simp)
    | step d2 g2 =>
      have e := Option.some.inj (der_one d d2)
      subst e
      exact ih g2
section
variable {P : Program} {w : World} {K : PySem.W.Frag} {mg : Str → Option Value} {base : Heap}
def RD (K : PySem.W.Frag) (H : Hp) (v : V) : Option (List Cl) → Prop
  | none => v = .non
  | some ds => Dp K H v (.tuple (ds.map clD))
@[irreducible] def spRun (K : PySem.W.Frag) : Sp := fun vs H Q _ => ∃ (p q : Addr) (xs zs : List V) (ns : List Str) (cs : List Cl) (lns : List Ln), vs = [.ref p, .ref q] ∧ SqT K H p xs ∧ DpAll K H xs (cs.map clD) ∧ SqT K H q zs ∧ DpAll K H zs (lns.map lnD) ∧ (∀ x ∈ lns, OkLn x) ∧ (∀ c ∈ cs, Vc ns c) ∧ (∀ z ∈ ns, Tx 17 z) ∧ ns.length ≤ 20 ∧ cs.length ≤ 1000 ∧ lns.length ≤ 1000 ∧
  ∀ (v : V) (r : Option (List Cl)) (H' : Hp), Same H H' → Run cs [] lns r → RD K H' v r → Q v H'
theorem ok_run {f : Addr} {fd : FuncData} (F : Fun K "derive_lines" "derive_lines" s_derive_lines f fd) (m_tuple : mg "tuple" = none) (C__derived : Cal P w K mg base "_derived" 2 ["clauses", "before", "line"] (spDer K)) : FnOk P w K mg base CX0 3 f fd ["clauses", "certificate"] (spRun K) := by
  refine F.ok sc_derive_lines (fun vs H Q E h => ?_) (fun cdv A outer s H vs Q E hr h => ?_)
  · unfold spRun at h
    obtain ⟨p, q, xs, zs, ns, cs, lns, rfl, _⟩ := h
    rfl
  · unfold spRun at h
    obtain ⟨p, q, xs, zs, ns, cs, lns, rfl, hp, hd, hq, hz, okl, vc, tx, nl, lc, ll, fin⟩ := h
    refine ⟨_, (pss_cons (ps_set (i := 2) sc_derive_lines.nd rfl (Or.inl rfl) (pe_lst pa_nil))
    (pss_cons (ps_for PassesOwn.never rfl (pi_tup (pv 1)) (pg_name (i := 3) sc_derive_lines.nd rfl (Or.inl rfl))
      (pss_cons (ps_set (i := 4) sc_derive_lines.nd rfl (Or.inl rfl) (pe_cal C__derived (hr.mono (by decide)) (pa_cons (pv 0) (pa_cons (pv 2) (pa_cons (pv 3) pa_nil)))))
    (pss_cons (ps_if (pt_cmpR op_isN (pv 4) pe_non (nomark _))
      (pss_one (ps_ret pe_non))
      pss_nil)
    (pss_one (ps_expr (pe_bm PySem.F.plainAttrs_list PySem.F.slot_list_append PySem.F.type_list_append mt_append (pv 2) (pa_cons (pv 4) pa_nil)))))))
    (pss_one (ps_ret (pe_callTy (T := "tuple") call_tuple_of (by rfl) m_tuple (by decide +kernel) (pa_cons (pv 2) pa_nil)))))), ?_⟩
    walk_at "rd"
    refine ⟨sz (by decide), fun D nD => ?_⟩
    have s0 := same_new nD (o := .lst ([] : List V))
    have zl : zs.length = lns.length := by rw [da_len hz, List.length_map]
    walk_at "rd"
    refine ⟨⟨_, Bx.Same.tup s0 hq⟩, for_it (walk_tup (K := K) (a := q) (xs := zs)) (fun i σ H' => ∃ (o3 o4 : Option V) (ys : List V) (bs : List Cl), σ = [some (.ref p), some (.ref q), some (.ref D), o3, o4] ∧ Same H H' ∧ H' D = some (.lst ys) ∧ DpAll K H' ys (bs.map clD) ∧ bs.length = i ∧ (∀ c ∈ bs, Vc ns c) ∧ ∀ r, Run cs bs (lns.drop i) r → Run cs [] lns r)
      ⟨none, none, [], [], rfl, s0, upd_same, .nil, rfl, (fun c hc => by cases hc), fun r h => h⟩ (fun i σ H' _ ⟨_, _, _, _, _, s, _⟩ => Bx.Same.tup s hq) ?_ ?_⟩
    · rintro i x σ H1 H2 hi ⟨o3, o4, ys, bs, rfl, s1, hD, hbd, bl, vb, back⟩ ⟨rfl, hx⟩
      obtain ⟨ln, hln, dl⟩ := da_atM hz hx
      have dr : lns.drop i = ln :: lns.drop (i + 1) := by
        obtain ⟨h, e⟩ := List.getElem?_eq_some_iff.mp hln
        rw [List.drop_eq_getElem_cons h, e]
      walk_at "rd"
      show spDer K _ _ _ _
      unfold spDer
      refine ⟨p, D, x, xs, ys, cs, bs, ln, rfl, Bx.Same.tup s1 hp, dpAll_same s1 hd, sq hD, hbd, dp_same s1 dl, okl ln (List.mem_of_getElem? hln), fun c hc => vc_ok tx nl (vc c hc), fun c hc => vc_ok tx nl (vb c hc), lc, by omega, fun v o H3 s3 hder hov => ?_⟩
      have s13 := s1.trans s3
      walk_at "rd"
      cases o with
      | none =>
        have e : v = .non := hov
        subst e
        refine ite2 (fun _ => ?_) (fun h => absurd (show decide (V.non = V.non) = true by simp) h)
        walk_at "rd"
        exact fin .non none H3 s13 (back none (by rw [dr]; exact .stop hder)) rfl
      | some c =>
        have dc : Dp K H3 v (clD c) := hov
        obtain ⟨b, zs1, rfl, _⟩ := dp_tup dc
        refine ite2 (fun h => absurd h (by simp)) (fun _ => ?_)
        walk_at "rd"
        have hD3 := s3 _ _ hD
        refine ⟨.inl ⟨rfl, _, sq hD3⟩, ?_⟩
        walk_at "rd"
        have yl : ys.length = bs.length := by rw [da_len hbd, List.length_map]
        refine ⟨D, _, _, rfl, rfl, hD3, szl (by omega), ?_⟩
        have tk := tk_lst (K := K) (o := .lst (ys ++ [.ref b])) hD3
        refine ⟨_, _, ys ++ [.ref b], bs ++ [c], rfl, same_at nD s13, upd_same, ?_, by rw [List.length_append, bl]; rfl, fun x hx => ?_, fun r h => back r (by rw [dr]; exact .step hder h)⟩
        · rw [List.map_append]
          exact da_app (da_tk tk _ _ (tup_cls _) (dpAll_same s3 hbd)) (da_one (dp_tk tk _ _ (tup_lits c) dc))
        · rcases List.mem_append.mp hx with h | h
          · exact vb x h
          · rw [List.mem_singleton.mp h]
            exact der_vc vc vb hder
    · rintro σ H1 ⟨o3, o4, ys, bs, rfl, s1, hD, hbd, bl, vb, back⟩
      rw [zl, List.drop_length] at back
      walk_at "rd"
      refine ⟨D, _, rfl, .inl ⟨sq hD, fun t nt => ?_⟩⟩
      have st := same_new nt (o := .tup ys)
      exact fin (.ref t) (some bs) _ (s1.trans st) (back _ (.done bs)) (.tup (sqt upd_same) (dpAll_same st hbd))
end
end K08
namespace K08
local macro_rules | `(tactic| walk_at "rd") => `(tactic| repeat (first | refine ⟨rfl, ?_⟩ | refine ⟨_, rfl, ?_⟩ | refine ⟨_, _, rfl, rfl, ?_⟩ | refine ⟨⟨_, rfl⟩, ?_⟩))
open PySem PySem.Spec PyProof.Rows L2 Bx TL Dx Zx Ow Sup NdefX Px
section
variable {P : Program} {w : World} {K : PySem.W.Frag} {mg : Str → Option Value} {base : Heap}
theorem eqv_strs : ∀ (l m : List Str), PyData.eqvAll (l.map PyData.str) (m.map PyData.str) = decide (l = m)
  | [], [] => rfl
  | [], y :: m => rfl
  | x :: l, [] => rfl
  | x :: l, y :: m => by
    show ((x == y) && PyData.eqvAll (l.map PyData.str) (m.map PyData.str)) = _
    rw [eqv_strs l m]
    by_cases h : x = y
    · subst h
      by_cases h2 : l = m
      · subst h2
        simp
      · simp [h2]
    · simp [h]
def ascB (l : List Str) : Bool := decide (l.Pairwise fun x y => x.cps.toList < y.cps.toList)
theorem ascB_iff {l : List Str} : ascB l = true ↔ Asc l := decide_eq_true_iff
def spAsc (K : PySem.W.Frag) : Sp := fun vs H Q _ => ∃ (a : Addr) (ns : List Str), vs = [.ref a] ∧ (SqL K H a (ns.map V.str) ∨ SqT K H a (ns.map V.str)) ∧ ns.length ≤ 1000 ∧ (∀ x ∈ ns, PyData.strOk x = true) ∧ ∀ H', Same H H' → Q (.bl (ascB ns)) H'
theorem ok_is_ascending {f : Addr} {fd : FuncData} (F : Fun K "is_ascending" "is_ascending" s_is_ascending f fd) (m_list : mg "list" = none) (m_set : mg "set" = none) (m_sorted : mg "sorted" = none) : FnOk P w K mg base CX0 1 f fd ["values"] (spAsc K) := by
  refine F.ok sc_is_ascending (fun vs H Q E h => ?_) (fun cdv A outer s H vs Q E hr h => ?_)
  · obtain ⟨a, ns, rfl, _⟩ := h
    rfl
  · obtain ⟨a, ns, rfl, hs, hl, hok, q⟩ := h
    refine ⟨_, (pss_one (ps_ret (pe_cmpR (op_eqD hr.units) (pe_callTy (T := "list") call_list_of (by rfl) m_list (by decide +kernel) (pa_cons (pv 0) pa_nil)) (pe_callB (id := "sorted") (Sx.cr_sortX rfl) (by rfl) m_sorted (by decide +kernel) (pa_cons (pe_callTy (T := "set") (Sx.cr_setX rfl) (by rfl) m_set (by decide +kernel) (pa_cons (pv 0) pa_nil)) pa_nil)) (nomark _)))), ?_⟩
    walk_at "rd"
    refine ⟨_, _, rfl, hs, fun p np => ?_⟩
    have s1 : Same H (upd H p (.lst (ns.map V.str))) := same_new np
    walk_at "rd"
    refine ⟨a, ns, rfl, hs.imp (Same.seq s1) (Bx.Same.tup s1), by omega, fun p2 ys n2 hm nd hlen => ?_⟩
    walk_at "rd"
    have s2 := Same.trans s1 (same_new n2 (o := Sx.SetV P w p2 ys))
    refine ⟨_, ys, rfl, upd_same, by omega, fun zs p3 pm st n3 => ?_⟩
    have s3 := Same.trans s2 (same_new n3 (o := .lst (zs.map V.str)))
    have hp3 := (Same.trans (same_new n2 (o := Sx.SetV P w p2 ys)) (same_new n3 (o := .lst (zs.map V.str)))) p _ upd_same
    have hzm : ∀ x, x ∈ zs ↔ x ∈ ns := fun x => pm.mem_iff.trans (hm x)
    have hza : Asc zs := asc_of st (pm.nodup_iff.mpr nd)
    have l1 : Lay 1 (.list (ns.map PyData.str)) := lay_list (lays_strs hok)
    have l2 : Lay 1 (.list (zs.map PyData.str)) := lay_list (lays_strs fun x hx => hok x ((hzm x).mp hx))
    refine ⟨_, _, .lst (sq hp3) (dp_strs ns), .lst (sq upd_same) (dp_strs zs), shape l1 (by decide), shape l2 (by decide), ?_⟩
    have e : PyData.eqv (.list (ns.map PyData.str)) (.list (zs.map PyData.str)) = ascB ns := by
      show PyData.eqvAll _ _ = _
      rw [eqv_strs]
      by_cases h : Asc ns
      · rw [ascB_iff.mpr h, decide_eq_true (asc_eq h hza fun x => (hzm x).symm)]
      · rw [Bool.eq_false_iff.mpr fun z => h (ascB_iff.mp z), decide_eq_false fun z : ns = zs => h (z ▸ hza)]
    rw [e]
    exact q _ s3
/-! ### is_valid -/
@[irreducible] def spKV (K : PySem.W.Frag) (C : Addr) : Sp := fun vs H Q _ => ∃ (a dx t p : Addr) (fs : List (Str × V)) (ns : List Str) (c : Cl), vs = [.ref a, .ref t, .ref p] ∧ H a = some (.ins C dx fs) ∧ fs.lookup ("names_in" : Str) = none ∧ SqT K H t (ns.map V.str) ∧ Dp K H (.ref p) (clD c) ∧ c.length ≤ 1000 ∧
  ∀ H', Same H H' → Q (.bl (c.all fun l => decide (l.1 ∈ ns))) H'
theorem ok_kind_valid {C : Addr} {f : Addr} {fd : FuncData} (F : Fun K "is_valid" "Kind.is_valid" s_Kind_is_valid f fd) (m_all : mg "all" = none) (M_names_in : MthC P w K mg base C "names_in" 1 ["self", "constraint"] (spNIn K)) : FnOk P w K mg base CX0 2 f fd ["self", "names", "constraint"] (spKV K C) := by
  refine F.ok sc_Kind_is_valid (fun vs H Q E h => ?_) (fun cdv A outer s H vs Q E hr h => ?_)
  · unfold spKV at h
    obtain ⟨a, dx, t, p, fs, ns, c, rfl, _⟩ := h
    rfl
  · unfold spKV at h
    obtain ⟨a, dx, t, p, fs, ns, c, rfl, ha, hn, ht, hp, hl, q⟩ := h
    refine ⟨_, (pss_one (ps_ret (pe_callB (id := "all") (cr_all rfl) (by rfl) m_all (by decide +kernel) (pa_cons (pe_lc (own := [("name", 3)]) (tt := tYes) rfl sc_Kind_is_valid.nd (pi_tup (pe_mth M_names_in (hr.mono (by decide)) (pv 0) (pa_cons (pv 2) pa_nil))) (blkOk_by (N := n_Kind_is_valid) (sc := defScope s_Kind_is_valid) (by decide +kernel)) (fun _ _ _ _ _ => pg_name (i := 3) sc_Kind_is_valid.nd rfl (Or.inl rfl)) (fun _ _ _ _ _ => pts_nil) (fun _ _ _ _ _ => (pe_cmpR (op_in_seqK (K := K) rfl) (pv 3) (pv 1) (by rfl)))) pa_nil)))), ?_⟩
    walk_at "rd"
    refine ⟨a, dx, _, rfl, ha, hn, ?_⟩
    walk_at "rd"
    show spNIn K _ _ _ _
    unfold spNIn
    refine ⟨a, p, c, rfl, hp, hl, fun r H1 s1 nr hr1 => ?_⟩
    refine ⟨r, rfl, ⟨_, sqt hr1⟩, fun D hD => ?_⟩
    have ht1 := Bx.Same.tup s1 ht
    refine lc_it walk_tup (fun i H' => H' = upd H1 D (.lst (((c.map (·.1)).take i).map fun z => V.bl (decide (z ∈ ns))))) rfl (fun i H' _ e => e ▸ Bx.Same.tup (same_new hD) (sqt hr1)) ?_ ?_
    · rintro i v H2 H3 hi rfl ⟨rfl, hx⟩
      obtain ⟨z, hz, rfl⟩ := at_map hx
      refine ⟨rfl, ?_⟩
      walk_at "rd"
      refine ⟨t, _, rfl, .inr (Bx.Same.tup (same_new hD) ht1), rfl, Bx.flat_all ns, ?_⟩
      rw [Bx.inV_str]
      walk_at "rd"
      refine ⟨_, upd_same, ?_, ?_⟩
      · rw [List.length_map]
        exact szl (Nat.lt_of_le_of_lt (List.length_take_le' i _) (by rw [List.length_map]; omega))
      · rw [upd_upd, List.take_add_one, hz, List.map_append]
        rfl
    rintro H2 rfl
    have sM := same_new hD (o := .lst (((c.map (·.1)).take ((c.map (·.1)).map V.str).length).map fun z => V.bl (decide (z ∈ ns))))
    have hM : (upd H1 D (.lst (((c.map (·.1)).take ((c.map (·.1)).map V.str).length).map fun z => V.bl (decide (z ∈ ns))))) D = some (.lst (((c.map (·.1)).map fun z => decide (z ∈ ns)).map V.bl)) := by
      rw [upd_same, List.length_map, List.take_length]
      simp only [List.map_map]
      rfl
    generalize upd H1 D (.lst (((c.map (·.1)).take ((c.map (·.1)).map V.str).length).map fun z => V.bl (decide (z ∈ ns)))) = H2 at sM hM ⊢
    refine ⟨_, (c.map (·.1)).map (fun z => decide (z ∈ ns)), rfl, sq hM, ?_⟩
    have e2 : ((c.map (·.1)).map fun z => decide (z ∈ ns)).all id = c.all fun l => decide (l.1 ∈ ns) := by
      rw [List.all_map, List.all_map]
      rfl
    rw [e2]
    exact q _ (Same.trans s1 sM)
/-- a clause over ns in order, with signs 0 and 1 -/
def okCl (ns : List Str) (c : Cl) : Bool := (c.all fun l => decide (l.1 ∈ ns)) && (ascB (c.map (·.1)) && c.all fun l => decide (l.2 = 0 ∨ l.2 = 1))
@[irreducible] def spSV (K : PySem.W.Frag) (C : Addr) : Sp := fun vs H Q _ => ∃ (a dx t p : Addr) (fs : List (Str × V)) (ns : List Str) (c : Cl), vs = [.ref a, .ref t, .ref p] ∧ H a = some (.ins C dx fs) ∧ fs.lookup ("names_in" : Str) = none ∧ SqT K H t (ns.map V.str) ∧ Dp K H (.ref p) (clD c) ∧ c.length ≤ 1000 ∧ OkC c ∧
  ∀ H', Same H H' → Q (.bl (okCl ns c)) H'
abbrev nf_SV (cc cda : Addr) : NF := ⟨"is_valid", "Bits.is_valid", defArgs s_Bits_is_valid, defBody s_Bits_is_valid, defScope s_Bits_is_valid, [(("__class__" : Str), cc)], cda⟩
theorem in01 (z : Int) : inV (.int z) [V.int 0, V.int 1] = decide (z = 0 ∨ z = 1) := by
  show ((0 : Int) == z || ((1 : Int) == z || false)) = _
  by_cases h0 : z = 0
  · subst h0
    rfl
  · by_cases h1 : z = 1
    · subst h1
      rfl
    · rw [decide_eq_false (fun h => h.elim h0 h1)]
      have a : ((0 : Int) == z) = false := by simpa using fun h : (0 : Int) = z => h0 h.symm
      have b : ((1 : Int) == z) = false := by simpa using fun h : (1 : Int) = z => h1 h.symm
      rw [a, b]
      rfl
theorem ok_valid {fI cc cda C g : Addr} {oc kV doc pm ct : Value} {od an : Option Addr} {osl : Array (Option Value)} (m_all : mg "all" = none) (C_is_ascending : Cal P w K mg base "is_ascending" 1 ["values"] (spAsc K)) (M_names_in : MthC P w K mg base C "names_in" 1 ["self", "constraint"] (spNIn K))
    (lk : K.lookup fI = some ⟨oc, od, .func (PySem.W.fnX "is_valid" "Bits.is_valid" (defArgs s_Bits_is_valid) (defBody s_Bits_is_valid) (defScope s_Bits_is_valid) [(("__class__" : Str), cc)] .none kV doc pm an (.ref cda) ct), osl⟩) (hcd : PySem.W.codeIn K (.ref cda) "Bits.is_valid" = true)
    (hcc : ∃ cl cld csl, K.lookup cc = some ⟨cl, cld, .cell (some (.ref C)), csl⟩)
    (hco : ∃ (ccl : Value) (cdd : Option Addr) (vs : Array Value) (ccs : Array (Option Value)) (file : Str) (tf : Tok), K.lookup cda = some ⟨ccl, cdd, .fields vs, ccs⟩ ∧ vs[2]? = some (.str file tf) ∧ ((P.main.file : Str) == file) = true)
    (htop : (P.main.scope.names.lookup ("super" : Str)).isSome = false) (m_super : mg "super" = none) (hany : PySem.W.nsIn K cStatics "thirdparty.any" = some none) (T0 : SupM.SupA K C C "is_valid" g) (F0 : FnR P w K mg base CX0 2 g (spKV K C)) :
    FnOk P w K mg base CX0 4 fI (PySem.W.fnX "is_valid" "Bits.is_valid" (defArgs s_Bits_is_valid) (defBody s_Bits_is_valid) (defScope s_Bits_is_valid) [(("__class__" : Str), cc)] .none kV doc pm an (.ref cda) ct) ["self", "names", "constraint"] (spSV K C) := by
  obtain ⟨ccl, cdd, vs, ccs, file, tf, lc, hvs, hfile⟩ := hco
  obtain ⟨cl, cld, csl, lcc⟩ := hcc
  refine SupM.fn_at (F := nf_SV cc cda) (k := 3) lk hcd rfl ⟨cl, cld, csl, lcc⟩ ns_Bits_is_valid (fun vs H Q E h => ?_) (fun A outer s H vs Q E hr h => ?_)
  · unfold spSV at h
    obtain ⟨a, dx, t, p, fs, ns, c, rfl, _⟩ := h
    rfl
  · have S0 : ∀ L, SupF P K mg (envF (nf_SV cc cda) fI L) "self" C := fun L => ⟨rfl, rfl, ⟨fI, _, _, _, _, _, rfl, lk, rfl, rfl⟩, ⟨cda, ccl, cdd, _, ccs, file, tf, rfl, lc, hvs, hfile⟩, htop, ⟨cc, cl, cld, csl, rfl, lcc⟩, m_super, hany, rfl, rfl⟩
    have S0 := S0 s.heap.objs.size
    unfold spSV at h
    obtain ⟨a, dx, t, p, fs, ns, c, rfl, ha, hn, ht, hp, hl, oc, q⟩ := h
    refine ⟨_, (SupM.pssa_cons (SupM.psa_if (SupM.pta_not (SupM.pta_val (SupM.pea_sup S0 T0 F0 (hr.mono (by decide)) rfl (pa_cons (pv 1) (pa_cons (pv 2) pa_nil)))))
      (pss_one (ps_ret pe_bl))
      pss_nil)
    (SupM.PSsa.of (pss_one (ps_ret (pe_and (pe_cal C_is_ascending (hr.mono (by decide)) (pa_cons (pe_mth M_names_in (hr.mono (by decide)) (pv 0) (pa_cons (pv 2) pa_nil)) pa_nil)) (pe_one (pe_callB (id := "all") (cr_all rfl) (by rfl) m_all (by decide +kernel) (pa_cons (pe_lc (own := [("_", 4), ("sign", 5)]) (tt := tYes) rfl ns_Bits_is_valid.nd (pi_tup (pv 2)) (blkOk_by (N := n_Bits_is_valid) (sc := defScope s_Bits_is_valid) (by decide +kernel)) (fun _ _ _ _ _ => pg_tupK (K := K) (n := 2) rfl rfl (pgs_cons (pg_name (i := 4) ns_Bits_is_valid.nd rfl (Or.inl rfl)) (pgs_cons (pg_name (i := 5) ns_Bits_is_valid.nd rfl (Or.inl rfl)) pgs_nil))) (fun _ _ _ _ _ => pts_nil) (fun _ _ _ _ _ => (pe_cmpR (op_in_seqK (K := K) rfl) (pv 5) (pe_tup (pa_cons pe_int (pa_cons pe_int pa_nil))) (by rfl)))) pa_nil)))))))), ?_⟩
    refine ⟨a, dx, fs, rfl, ha, ?_⟩
    walk_at "rd"
    show spKV K C _ _ _ _
    unfold spKV
    refine ⟨a, dx, t, p, fs, ns, c, rfl, ha, hn, ht, hp, hl, fun H1 s1 => ?_⟩
    cases h0 : c.all fun l => decide (l.1 ∈ ns) with
    | false =>
      walk_at "rd"
      have q1 := q H1 s1
      unfold okCl at q1
      rw [h0, Bool.false_and] at q1
      exact q1
    | true =>
      walk_at "rd"
      refine ⟨a, dx, _, rfl, s1 _ _ ha, hn, ?_⟩
      walk_at "rd"
      show spNIn K _ _ _ _
      unfold spNIn
      refine ⟨a, p, c, rfl, dp_same s1 hp, hl, fun r H2 s2 nr hr2 => ?_⟩
      have s12 := s1.trans s2
      walk_at "rd"
      refine ⟨r, c.map (·.1), rfl, .inr (sqt hr2), by rw [List.length_map]; exact hl, fun z hz => (by obtain ⟨l, h1, rfl⟩ := List.mem_map.mp hz; exact oc l h1), fun H3 s3 => ?_⟩
      have s13 := s12.trans s3
      have fin : ∀ H', Same H H' → Q (.bl (ascB (c.map (·.1)) && c.all fun l => decide (l.2 = 0 ∨ l.2 = 1))) H' := fun H' s' => by
        have z := q H' s'
        unfold okCl at z
        rw [h0, Bool.true_and] at z
        exact z
      refine ⟨_, rfl, ite2 (fun h1 => ?_) (fun h1 => ?_)⟩
      · rw [h1] at fin
        obtain ⟨p', xs, ep, hx0, hxd⟩ := dp_tup (dp_same s13 hp)
        cases ep
        have xl : xs.length = c.length := by rw [da_len hxd, List.length_map]
        walk_at "rd"
        refine ⟨⟨_, hx0⟩, fun D hD => ?_⟩
        refine lc_it walk_tup (fun i H' => Same H3 H' ∧ H' D = some (.lst ((c.take i).map fun l => V.bl (decide (l.2 = 0 ∨ l.2 = 1))))) ⟨same_new hD, upd_same⟩ (fun i H' _ h => Bx.Same.tup h.1 hx0) ?_ ?_
        · rintro i v H4 H5 hi ⟨s4, hM⟩ ⟨rfl, hx⟩
          obtain ⟨l, hl1, dl⟩ := da_atM hxd hx
          obtain ⟨b, rfl, hb⟩ := lit_dp (dp_same s4 dl)
          refine ⟨b, _, rfl, hb, rfl, _, _, rfl, _, _, rfl, rfl, rfl, ?_⟩
          walk_at "rd"
          refine ⟨sz (by show 2 ≤ 100000; decide), fun T nT => ?_⟩
          have sT := same_new nT (o := .tup [.int 0, .int 1])
          have hT := upd_same (H := H5) (a := T) (o := .tup [.int 0, .int 1])
          generalize upd H5 T (.tup [.int 0, .int 1]) = H6 at sT hT ⊢
          refine ⟨T, _, rfl, .inr (sqt hT), rfl, rfl, ?_⟩
          rw [in01]
          refine ⟨_, sT _ _ hM, ?_, same_at hD (s4.trans sT), ?_⟩
          · rw [List.length_map]
            exact szl (Nat.lt_of_le_of_lt (List.length_take_le' i c) (by omega))
          · rw [upd_same, List.take_add_one, hl1, List.map_append]
            rfl
        rintro H4 ⟨s4, hM⟩
        rw [xl, List.take_length] at hM
        have e1 : (c.map fun l => V.bl (decide (l.2 = 0 ∨ l.2 = 1))) = (c.map fun l => decide (l.2 = 0 ∨ l.2 = 1)).map V.bl := by
          rw [List.map_map]
          rfl
        rw [e1] at hM
        refine ⟨_, c.map fun l => decide (l.2 = 0 ∨ l.2 = 1), rfl, sq hM, ?_⟩
        have e2 : (c.map fun l => decide (l.2 = 0 ∨ l.2 = 1)).all id = (true && c.all fun l => decide (l.2 = 0 ∨ l.2 = 1)) := by
          rw [List.all_map, Bool.true_and]
          rfl
        rw [e2]
        exact fin H4 (s13.trans s4)
      · have z := fin H3 s13
        rw [Bool.eq_false_iff.mpr h1, Bool.false_and] at z
        exact z
end
end K08
namespace K08
local macro_rules | `(tactic| walk_at "rd") => `(tactic| repeat (first | refine ⟨rfl, ?_⟩ | refine ⟨_, rfl, ?_⟩ | refine ⟨_, _, rfl, rfl, ?_⟩ | refine ⟨⟨_, rfl⟩, ?_⟩))
open PySem PySem.Spec PyProof.Rows L2 Bx TL Dx Zx Ow Sup NdefX Px
theorem st_co {t : TS} {D : Ends} {rest : TS} {σ : List (Option V)} {H : Hp} (R : Hp → Prop) (h : ∀ D' : Ends, (∀ H', R H' → D'.nx σ H') → t D' σ H) (k : ∀ H', R H' → rest D σ H') : tSeq t rest D σ H :=
  h { D with nx := rest D } k
theorem sub_snoc {ms ns : List Str} {i : Nat} {n : Str} (h : ms.Sublist (ns.take i)) (hn : ns[i]? = some n) : (ms ++ [n]).Sublist (ns.take (i + 1)) := by
  rw [List.take_add_one, hn]
  exact h.append (List.Sublist.refl _)
theorem sub_skip {ms ns : List Str} {i : Nat} (h : ms.Sublist (ns.take i)) : ms.Sublist (ns.take (i + 1)) := by
  rw [List.take_add_one]
  exact h.trans (List.sublist_append_left _ _)
section
variable {P : Program} {w : World} {K : PySem.W.Frag} {mg : Str → Option Value} {base : Heap}
theorem sqt_but {H H' : Hp} {s a : Addr} {xs : List V} (hs : Src H s) (sb : SameBut s H H') (h : SqT K H a xs) : SqT K H' a xs := by
  obtain ⟨n, c, hs⟩ := hs
  rcases h with (h | ⟨u, h⟩) | h
  · exact .inl (.inl (sb _ _ (fun z => by rw [z, hs] at h; cases h) h))
  · exact .inl (.inr ⟨u, sb _ _ (fun z => by rw [z, hs] at h; cases h) h⟩)
  · exact .inr h
theorem tk_but {H H' : Hp} {s : Addr} (hs : Src H s) (sb : SameBut s H H') : Tk K H H' := fun _ _ h => sqt_but hs sb h
@[irreducible] def spClause (K : PySem.W.Frag) : Sp := fun vs H Q _ => ∃ (s na : Addr) (ns : List Str), vs = [.ref s, .ref na] ∧ Src H s ∧ SqT K H na (ns.map V.str) ∧ Asc ns ∧ ns.length ≤ 20 ∧ ∀ (v : V) (c : Cl) (H' : Hp), SameBut s H H' → Src H' s → Dp K H' v (clD c) → Vc ns c → Q v H'
theorem ok_clause {f : Addr} {fd : FuncData} (F : Fun K "_law_clause" "_law_clause" s__law_clause f fd) (m_tuple : mg "tuple" = none) (C__law_draw : CDraw P w K mg base) : FnOk P w K mg base CX0 2 f fd ["_law_source_here", "_law_names_here"] (spClause K) := by
  refine F.ok sc__law_clause (fun vs H Q E h => ?_) (fun cdv A outer s H vs Q E hr h => ?_)
  · unfold spClause at h
    obtain ⟨s, na, ns, rfl, _⟩ := h
    rfl
  · unfold spClause at h
    obtain ⟨src, na, ns, rfl, hA, hna, asc, nl, q⟩ := h
    refine ⟨_, (pss_cons (ps_set (i := 2) sc__law_clause.nd rfl (Or.inl rfl) (pe_lst pa_nil))
    (pss_cons (ps_for PassesOwn.never rfl (pi_tup (pv 1)) (pg_name (i := 3) sc__law_clause.nd rfl (Or.inl rfl))
      (pss_cons (ps_set (i := 4) sc__law_clause.nd rfl (Or.inl rfl) (pe_cal C__law_draw (hr.mono (by decide)) (pa_cons (pv 0) (pa_cons pe_int pa_nil))))
    (pss_one (ps_if (pt_cmpR op_lt (pv 4) pe_int (nomark _))
      (pss_one (ps_expr (pe_bm PySem.F.plainAttrs_list PySem.F.slot_list_append PySem.F.type_list_append mt_append (pv 2) (pa_cons (pe_tup (pa_cons (pv 3) (pa_cons (pv 4) pa_nil))) pa_nil))))
      pss_nil))))
    (pss_one (ps_ret (pe_callTy (T := "tuple") call_tuple_of (by rfl) m_tuple (by decide +kernel) (pa_cons (pv 2) pa_nil)))))), ?_⟩
    walk_at "rd"
    refine ⟨sz (by decide), fun M nM => ?_⟩
    have nMs := src_ne hA nM
    have sM := same_new nM (o := .lst ([] : List V))
    have hM0 := upd_same (H := H) (a := M) (o := .lst ([] : List V))
    walk_at "rd"
    refine ⟨⟨_, Bx.Same.tup sM hna⟩, for_it (walk_tup (K := K) (a := na) (xs := ns.map V.str)) (fun j σ H' => ∃ (o3 o4 : Option V) (vs : List V) (ls : Cl), σ = [some (.ref src), some (.ref na), some (.ref M), o3, o4] ∧ SameBut src H H' ∧ Src H' src ∧ H' M = some (.lst vs) ∧ DpAll K H' vs (ls.map litD) ∧ (ls.map (·.1)).Sublist (ns.take j) ∧ ∀ l ∈ ls, l.2 = 0 ∨ l.2 = 1)
      ⟨none, none, [], [], rfl, Bx.Same.but sM, src_upd hA nMs, hM0, .nil, List.nil_sublist _, fun l hl => (by cases hl)⟩ (fun j σ H' _ ⟨_, _, _, _, _, s, _⟩ => sqt_but hA s hna) ?_ ?_⟩
    · rintro j x σ H3 H3' hj ⟨o3, o4, vs, ls, rfl, s3, hA3, hM3, hd3, sub3, sg3⟩ ⟨rfl, hx⟩
      obtain ⟨n, hn, rfl⟩ := at_map hx
      rw [List.length_map] at hj
      walk_at "rd"
      refine draw_of (lim := 4) hA3 (by decide) fun r4 H4 h4 h5 s4 hA4 => ?_
      have hM4 := s4 _ _ nMs.symm hM3
      have hd4 := da_tk (tk_but hA3 s4) _ _ (tup_lits _) hd3
      walk_at "rd"
      refine ite2 (fun h6 => ?_) (fun h6 => ?_)
      · have h7 : r4 < 2 := of_decide_eq_true h6
        walk_at "rd"
        refine ⟨.inl ⟨rfl, _, sq hM4⟩, ?_⟩
        walk_at "rd"
        refine ⟨sz (by show 2 ≤ 100000; decide), fun T nT => ?_⟩
        have sT := same_new nT (o := .tup [.str n, .int r4])
        have hT := upd_same (H := H4) (a := T) (o := .tup [.str n, .int r4])
        have hA5 := src_same hA4 sT
        have hM5 := sT _ _ hM4
        have hd5 := dpAll_same sT hd4
        have s5 := (s3.trans s4).trans (Bx.Same.but sT)
        generalize upd H4 T (.tup [.str n, .int r4]) = H5 at hT hA5 hM5 hd5 s5 ⊢
        have ll : ls.length ≤ 20 := by
          have z := sub3.length_le
          have z2 := List.length_take_le' j ns
          rw [List.length_map] at z
          omega
        have vl5 : vs.length = ls.length := by rw [da_len hd3, List.length_map]
        refine ⟨M, _, _, rfl, rfl, hM5, szl (by omega), ?_⟩
        have tk := tk_lst (K := K) (o := .lst (vs ++ [.ref T])) hM5
        refine ⟨_, _, vs ++ [.ref T], ls ++ [(n, r4)], rfl, but_at nM s5, src_upd hA5 nMs, upd_same, ?_, ?_, fun l hl => ?_⟩
        · rw [List.map_append]
          exact da_app (da_tk tk _ _ (tup_lits _) hd5) (da_one (dp_tk tk _ _ rfl (dp_lit (l := (n, r4)) (sqt hT))))
        · rw [List.map_append]
          exact sub_snoc sub3 hn
        · rcases List.mem_append.mp hl with h | h
          · exact sg3 l h
          · rw [List.mem_singleton.mp h]
            show r4 = 0 ∨ r4 = 1
            omega
      · walk_at "rd"
        exact ⟨_, _, vs, ls, rfl, s3.trans s4, hA4, hM4, hd4, sub_skip sub3, sg3⟩
    rintro σ H3 ⟨o3, o4, vs, ls, rfl, s3, hA3, hM3, hd3, sub3, sg3⟩
    rw [List.length_map, List.take_length] at sub3
    have up3 : (ls.map (·.1)).Pairwise fun x y => x.cps.toList < y.cps.toList := List.Pairwise.sublist sub3 asc
    have vls : Vc ns ls := ⟨(List.pairwise_map (R := fun x y : Str => x.cps.toList < y.cps.toList) (f := fun l : Lit => l.1)).mp up3, fun l hl => ⟨sub3.subset (List.mem_map.mpr ⟨l, hl, rfl⟩), sg3 l hl⟩⟩
    walk_at "rd"
    refine ⟨M, _, rfl, .inl ⟨sq hM3, fun t nt => ?_⟩⟩
    have st := same_new nt (o := .tup vs)
    exact q (.ref t) ls _ (s3.trans (Bx.Same.but st)) (src_same hA3 st) (.tup (sqt upd_same) (dpAll_same st hd3)) vls
/-! ### within -/
@[irreducible] def spWithin (K : PySem.W.Frag) : Sp := fun vs H Q _ => ∃ (p q : Addr) (c d : Cl), vs = [.ref p, .ref q] ∧ Dp K H (.ref p) (clD c) ∧ Dp K H (.ref q) (clD d) ∧ OkC c ∧ OkC d ∧ Q (.bl (inC c d)) H
theorem ok_within {f : Addr} {fd : FuncData} (F : Fun K "_law_within" "_law_within" s__law_within f fd) : FnOk P w K mg base CX0 1 f fd ["_law_first", "_law_second"] (spWithin K) := by
  refine F.ok sc__law_within (fun vs H Q E h => ?_) (fun cdv A outer s H vs Q E hr h => ?_)
  · unfold spWithin at h
    obtain ⟨p, q, c, d, rfl, _⟩ := h
    rfl
  · unfold spWithin at h
    obtain ⟨p, q, c, d, rfl, hc, hd, oc, od, fin⟩ := h
    refine ⟨_, (pss_cons (ps_for PassesOwn.never rfl (pi_tup (pv 1)) (pg_name (i := 2) sc__law_within.nd rfl (Or.inl rfl))
      (pss_one (ps_if (pt_cmpR (Sl.op_notInT (K := K) rfl (room hr)) (pv 2) (pv 0) (by rfl))
      (pss_one (ps_ret pe_bl))
      pss_nil)))
    (pss_one (ps_ret pe_bl))), ?_⟩
    walk_at "rd"
    obtain ⟨q', xs, eq, ht, ha⟩ := dp_tup hd
    cases eq
    have xl : xs.length = d.length := by rw [da_len ha, List.length_map]
    refine ⟨⟨_, ht⟩, for_it walk_tup (fun i σ H' => ∃ o2 : Option V, σ = [some (.ref p), some (.ref q), o2] ∧ H' = H ∧ (d.take i).all (fun l => decide (l ∈ c)) = true) ⟨none, rfl, rfl, rfl⟩ (fun i σ H' _ ⟨_, _, e, _⟩ => e ▸ ht) ?_ ?_⟩
    · rintro i x σ H1 H2 hi ⟨o2, rfl, rfl, al⟩ ⟨rfl, hx⟩
      obtain ⟨l, hl, dl⟩ := da_atM ha hx
      walk_at "rd"
      refine ⟨litD l, c.map litD, dl, hc, sh_lit (od l (List.mem_of_getElem? hl)), sh_cl oc, ?_⟩
      rw [any_lit]
      by_cases m : l ∈ c
      · rw [decide_eq_true m]
        walk_at "rd"
        rw [List.take_add_one, hl, List.all_append, al, Bool.true_and]
        show (decide (l ∈ c) && true) = true
        rw [decide_eq_true m]
        rfl
      · rw [decide_eq_false m]
        walk_at "rd"
        have e : inC c d = false := by
          unfold inC
          rw [List.all_eq_false]
          exact ⟨l, List.mem_of_getElem? hl, by rw [decide_eq_false m]; decide⟩
        rw [e] at fin
        exact fin
    · rintro σ H1 ⟨o2, rfl, rfl, al⟩
      rw [xl, List.take_length] at al
      walk_at "rd"
      have e : inC c d = true := al
      rw [e] at fin
      exact fin
@[irreducible] def spIsB : Sp := fun vs H Q _ => ∃ a b : Bool, vs = [.bl a, .bl b] ∧ Q (.bl (decide (a = b))) H
theorem ok_is_bool {f : Addr} {fd : FuncData} (F : Fun K "_law_is_bool" "_law_is_bool" s__law_is_bool f fd) (m_isinstance : mg "isinstance" = none) (m_bool : mg "bool" = none) : FnOk P w K mg base CX0 1 f fd ["_law_actual", "_law_expected"] spIsB := by
  refine F.ok sc__law_is_bool (fun vs H Q E h => ?_) (fun cdv A outer s H vs Q E hr h => ?_)
  · unfold spIsB at h
    obtain ⟨a, b, rfl, _⟩ := h
    rfl
  · unfold spIsB at h
    obtain ⟨a, b, rfl, q⟩ := h
    refine ⟨_, (pss_one (ps_ret (pe_and (pe_callB (id := "isinstance") call_isi (by rfl) m_isinstance (by decide +kernel) (pa_cons (pv 0) (pa_cons (pe_bltn (v := .ty "bool") (by rfl) m_bool (by decide +kernel) rfl) pa_nil))) (pe_one (pe_cmpR op_eq (pv 0) (pv 1) (nomark _)))))), ?_⟩
    walk_at "rd"
    refine ⟨_, _, _, _, true, rfl, .ty "bool", .base (.bl _), kit_ty (by decide +kernel), ?_⟩
    walk_at "rd"
    have e : decide (V.bl a = V.bl b) = decide (a = b) := decide_eq_decide.mpr ⟨V.bl.inj, fun e => congrArg V.bl e⟩
    show Q (.bl (decide (V.bl a = V.bl b))) H
    rw [e]
    exact q
end
end K08
namespace K08
local macro_rules | `(tactic| walk_at "rd") => `(tactic| repeat (first | refine ⟨rfl, ?_⟩ | refine ⟨_, rfl, ?_⟩ | refine ⟨_, _, rfl, rfl, ?_⟩ | refine ⟨⟨_, rfl⟩, ?_⟩))
open PySem PySem.Spec PyProof.Rows L2 Bx TL Dx Zx Ow Sup NdefX Px
theorem sh_litsL {c : Cl} (h : OkC c) : SeqAt.shaped (.list (c.map litD)) = true := by
  unfold SeqAt.shaped
  have z := dep_lits c
  have e : PyData.canLay0 (.list (c.map litD)) = true := lay_lits h
  have d : PyData.depth (.list (c.map litD)) = PyData.depthAll (c.map litD) + 1 := rfl
  rw [e, d, Bool.true_and, decide_eq_true_iff]
  omega
/-- the cut of two clauses on a name -/
def CutR (c d : Cl) (n : Str) (o : Option Cl) : Prop := if (n, (1 : Int)) ∈ c ∧ (n, (0 : Int)) ∈ d then IsRes c d n o else o = none
theorem nodup_snoc {l : Cl} {x : Lit} (nd : l.Nodup) (h : x ∉ l) : (l ++ [x]).Nodup := by
  rw [List.nodup_append]
  refine ⟨nd, List.nodup_cons.mpr ⟨List.not_mem_nil, List.nodup_nil⟩, fun a ha b hb e => ?_⟩
  rw [List.mem_singleton.mp hb] at e
  exact h (by rw [← e]; exact ha)
theorem up_nodup {c : Cl} (up : Up c) : c.Nodup := up.imp fun {a b} (z : a.1.cps.toList < b.1.cps.toList) (e : a = b) => List.lt_irrefl b.1.cps.toList (by rw [e] at z; exact z)
section
variable {P : Program} {w : World} {K : PySem.W.Frag} {mg : Str → Option Value} {base : Heap}
theorem ne_name (a b : Str) : (!decide (V.str a = V.str b)) = decide (a ≠ b) := by
  by_cases h : a = b
  · subst h
    simp
  · rw [decide_eq_false (fun z => h (V.str.inj z)), decide_eq_true h]
    rfl
@[irreducible] def spCut (K : PySem.W.Frag) : Sp := fun vs H Q _ => ∃ (p q : Addr) (c d : Cl) (n : Str) (ns : List Str), vs = [.ref p, .ref q, .str n] ∧ Dp K H (.ref p) (clD c) ∧ Dp K H (.ref q) (clD d) ∧ Vc ns c ∧ Vc ns d ∧ (∀ z ∈ ns, Tx 17 z) ∧ ns.length ≤ 20 ∧ PyData.strOk n = true ∧
  ∀ (v : V) (o : Option Cl) (H' : Hp), Same H H' → CutR c d n o → OD K H' v o → Q v H'
set_option maxHeartbeats 2000000 in
theorem ok_cut {f : Addr} {fd : FuncData} (F : Fun K "_law_cut" "_law_cut" s__law_cut f fd) (m_tuple : mg "tuple" = none) (m_sorted : mg "sorted" = none) : FnOk P w K mg base CX0 1 f fd ["_law_first", "_law_second", "_law_name"] (spCut K) := by
  refine F.ok sc__law_cut (fun vs H Q E h => ?_) (fun cdv A outer s H vs Q E hr h => ?_)
  · unfold spCut at h
    obtain ⟨p, q, c, d, n, ns, rfl, _⟩ := h
    rfl
  · unfold spCut at h
    obtain ⟨p, q, c, d, n, ns, rfl, hc, hd, vc, vd, tx, nl, on, fin⟩ := h
    obtain ⟨oc, lc⟩ := vc_ok tx nl vc
    obtain ⟨od, ld⟩ := vc_ok tx nl vd
    refine ⟨_, (pss_cons (ps_if (PW.pt (pw_or (pt_cmpR (Sl.op_notInT (K := K) rfl (room hr)) (pe_tup (pa_cons (pv 2) (pa_cons pe_int pa_nil))) (pv 0) (by rfl)) (pw_or1 (pt_cmpR (Sl.op_notInT (K := K) rfl (room hr)) (pe_tup (pa_cons (pv 2) (pa_cons pe_int pa_nil))) (pv 1) (by rfl)))))
      (pss_one (ps_ret pe_non))
      pss_nil)
    (pss_cons (ps_setLc (i := 3) (own := [("_law_literal", 4)]) rfl sc__law_cut.nd rfl rfl (sw_true rfl rfl rfl (by decide +kernel)) (pi_tup (pv 0)) (blkOk_by (N := n__law_cut) (sc := defScope s__law_cut) (by decide +kernel)) (fun _ _ _ _ _ => pg_name (i := 4) sc__law_cut.nd rfl (Or.inl rfl)) (fun _ _ _ _ _ => pts_one (pt_cmpR op_ne (pe_ix (ix_tupK (K := K) rfl) (pv 4) pe_int (fun _ _ => rfl)) (pv 2) (nomark _))) (fun _ _ _ _ _ => (pv 4)))
    (pss_cons (ps_for PassesOwn.never rfl (pi_tup (pv 1)) (pg_name (i := 4) sc__law_cut.nd rfl (Or.inl rfl))
      (pss_one (ps_if (PW.pt (pw_and (pt_cmpR op_ne (pe_ix ix_tup (pv 4) pe_int (fun _ _ => rfl)) (pv 2) (nomark _)) (pw_and1 (pt_cmpR (op_notInD (room hr)) (pv 4) (pv 3) (by rfl)))))
      (pss_one (ps_expr (pe_bm PySem.F.plainAttrs_list PySem.F.slot_list_append PySem.F.type_list_append mt_append (pv 3) (pa_cons (pv 4) pa_nil))))
      pss_nil)))
    (pss_cons (ps_for PassesOwn.never rfl (pi_list (pv 3)) (pg_name (i := 4) sc__law_cut.nd rfl (Or.inl rfl))
      (pss_one (ps_if (pt_cmpR (op_inD (room hr)) (pe_tup (pa_cons (pe_ix ix_tup (pv 4) pe_int (fun _ _ => rfl)) (pa_cons (pe_op op_sub pe_int (pe_ix ix_tup (pv 4) pe_int (fun _ _ => rfl))) pa_nil))) (pv 3) (by rfl))
      (pss_one (ps_ret pe_non))
      pss_nil)))
    (pss_one (ps_ret (pe_callTy (T := "tuple") call_tuple_of (by rfl) m_tuple (by decide +kernel) (pa_cons (pe_callB (id := "sorted") (Sd.cr_sortT (room hr)) (by rfl) m_sorted (by decide +kernel) (pa_cons (pv 3) pa_nil)) pa_nil)))))))), ?_⟩
    walk_at "rd"
    have noC : ¬ ((n, (1 : Int)) ∈ c ∧ (n, (0 : Int)) ∈ d) → CutR c d n none := fun h => by
      unfold CutR
      rw [if_neg h]
    refine ⟨sz (by show 2 ≤ 100000; decide), fun T1 nT1 => ?_⟩
    have s1 := same_new nT1 (o := .tup [.str n, .int 1])
    have hT1 := upd_same (H := H) (a := T1) (o := .tup [.str n, .int 1])
    generalize upd H T1 (.tup [.str n, .int 1]) = H1 at s1 hT1 ⊢
    walk_at "rd"
    refine ⟨litD (n, 1), c.map litD, dp_lit (sqt hT1), dp_same s1 hc, sh_lit (l := (n, 1)) on, sh_cl oc, ?_⟩
    rw [any_lit]
    by_cases m1 : (n, (1 : Int)) ∈ c
    case neg =>
      rw [decide_eq_false m1]
      walk_at "rd"
      exact fin .non none H1 s1 (noC fun h => m1 h.1) rfl
    rw [decide_eq_true m1]
    walk_at "rd"
    refine ⟨sz (by show 2 ≤ 100000; decide), fun T2 nT2 => ?_⟩
    have s2 := s1.trans (same_new nT2 (o := .tup [.str n, .int 0]))
    have hT2 := upd_same (H := H1) (a := T2) (o := .tup [.str n, .int 0])
    generalize upd H1 T2 (.tup [.str n, .int 0]) = H2 at s2 hT2 ⊢
    walk_at "rd"
    refine ⟨litD (n, 0), d.map litD, dp_lit (sqt hT2), dp_same s2 hd, sh_lit (l := (n, 0)) on, sh_cl od, ?_⟩
    rw [any_lit]
    by_cases m2 : (n, (0 : Int)) ∈ d
    case neg =>
      rw [decide_eq_false m2]
      walk_at "rd"
      exact fin .non none H2 s2 (noC fun h => m2 h.2) rfl
    rw [decide_eq_true m2]
    walk_at "rd"
    obtain ⟨p', xs, ep, ht, ha⟩ := dp_tup (dp_same s2 hc)
    cases ep
    obtain ⟨q', ys, eq, ht2, ha2⟩ := dp_tup (dp_same s2 hd)
    cases eq
    have xl : xs.length = c.length := by rw [da_len ha, List.length_map]
    have yl : ys.length = d.length := by rw [da_len ha2, List.length_map]
    refine ⟨⟨_, ht⟩, fun D hD => ?_⟩
    refine lc_it walk_tup (fun i H' => Same H2 H' ∧ ∃ us, H' D = some (.lst us) ∧ DpAll K H' us (((c.take i).filter fun l => decide (l.1 ≠ n)).map litD)) ⟨same_new hD, [], upd_same, .nil⟩ (fun i H' _ h => Bx.Same.tup h.1 ht) ?_ ?_
    · rintro i v H3 H4 hi ⟨s3, us, hM, hus⟩ ⟨rfl, hx⟩
      obtain ⟨l, hl, dl⟩ := da_atM ha hx
      have dl4 := dp_same s3 dl
      obtain ⟨b, rfl, hb⟩ := lit_dp dl4
      refine ⟨rfl, ?_⟩
      walk_at "rd"
      refine ⟨_, _, _, _, rfl, rfl, hb, atI_nat (j := 0) rfl, ?_⟩
      walk_at "rd"
      rw [ne_name]
      refine ite2 (fun h6 => ?_) (fun h6 => ?_)
      · walk_at "rd"
        have ul : us.length ≤ 20 := by
          rw [da_len hus, List.length_map]
          exact Nat.le_trans (Nat.le_trans (List.length_filter_le _ _) (List.length_take_le' i c)) (by omega)
        refine ⟨us, hM, szl (by omega), same_at hD s3, us ++ [.ref b], upd_same, ?_⟩
        rw [take_filterA hl, List.filter_cons, if_pos h6, List.filter_nil, List.map_append]
        exact da_app (da_tk (tk_lst hM) _ _ (tup_lits _) hus) (da_one (dp_tk (tk_lst hM) _ _ rfl dl4))
      · rw [take_filterA hl, List.filter_cons, if_neg h6, List.filter_nil, List.append_nil]
        exact ⟨s3, us, hM, hus⟩
    rintro H3 ⟨s3, us, hM, hus⟩
    rw [xl, List.take_length] at hus
    have nd0 : (c.filter fun l => decide (l.1 ≠ n)).Nodup := (up_nodup vc.1).filter _
    have l0 : (c.filter fun l => decide (l.1 ≠ n)).length ≤ 20 := Nat.le_trans (List.length_filter_le _ _) lc
    have mem0 : ∀ l, l ∈ (c.filter fun l => decide (l.1 ≠ n)) ↔ (l ∈ c ∧ l.1 ≠ n) := fun l => by rw [List.mem_filter, decide_eq_true_iff]
    generalize (c.filter fun l => decide (l.1 ≠ n)) = f0 at hus nd0 l0 mem0
    walk_at "rd"
    have ht23 := Bx.Same.tup s3 ht2
    refine ⟨⟨_, ht23⟩, for_it (walk_tup (K := K) (a := q) (xs := ys)) (fun i σ H' => ∃ (o4 : Option V) (us : List V) (fs : Cl), σ = [some (.ref p), some (.ref q), some (.str n), some (.ref D), o4] ∧ Same H2 H' ∧ H' D = some (.lst us) ∧ DpAll K H' us (fs.map litD) ∧ fs.Nodup ∧ fs.length ≤ 20 + i ∧ ∀ l, l ∈ fs ↔ (l ∈ c ∧ l.1 ≠ n) ∨ (l ∈ d.take i ∧ l.1 ≠ n))
      ⟨_, us, f0, rfl, s3, hM, hus, nd0, l0, fun l => (mem0 l).trans ⟨.inl, fun h => h.resolve_right fun z => (by simp at z)⟩⟩ (fun i σ H' _ ⟨_, _, _, _, s, _⟩ => Bx.Same.tup s ht2) ?_ ?_⟩
    · rintro i x σ H4 H5 hi ⟨o4, us, fs, rfl, s4, hM, hus, ndf, lf, mem⟩ ⟨rfl, hx⟩
      obtain ⟨l, hl, dl⟩ := da_atM ha2 hx
      have dl4 := dp_same s4 dl
      obtain ⟨b, rfl, hb⟩ := lit_dp dl4
      have okf : OkC fs := fun z hz => by
        rcases (mem z).mp hz with h | h
        · exact oc z h.1
        · exact od z (List.mem_of_mem_take h.1)
      have mtk : ∀ z, z ∈ d.take (i + 1) ↔ z ∈ d.take i ∨ z = l := fun z => by
        rw [List.take_add_one, hl, List.mem_append]
        simp
      have keep : (l.1 ≠ n → l ∈ fs) → ∀ z, z ∈ fs ↔ (z ∈ c ∧ z.1 ≠ n) ∨ (z ∈ d.take (i + 1) ∧ z.1 ≠ n) := fun h z => by
        rw [mem z, mtk z]
        constructor
        · rintro (a | a)
          · exact .inl a
          · exact .inr ⟨.inl a.1, a.2⟩
        · rintro (a | ⟨a | a, e⟩)
          · exact .inl a
          · exact .inr ⟨a, e⟩
          · subst a
            exact (mem _).mp (h e)
      walk_at "rd"
      refine ⟨_, _, _, _, rfl, rfl, hb, atI_nat (j := 0) rfl, ?_⟩
      walk_at "rd"
      rw [ne_name]
      refine ite2 (fun h6 => ?_) (fun h6 => ?_)
      · have h7 : l.1 ≠ n := of_decide_eq_true h6
        walk_at "rd"
        refine ⟨litD l, fs.map litD, dl4, .lst (sq hM) hus, sh_lit (od l (List.mem_of_getElem? hl)), sh_litsL okf, ?_⟩
        rw [any_lit]
        by_cases m : l ∈ fs
        · rw [decide_eq_true m]
          walk_at "rd"
          exact ⟨_, us, fs, rfl, s4, hM, hus, ndf, by omega, keep fun _ => m⟩
        · rw [decide_eq_false m]
          walk_at "rd"
          refine ⟨.inl ⟨rfl, _, sq hM⟩, ?_⟩
          walk_at "rd"
          have ul : us.length = fs.length := by rw [da_len hus, List.length_map]
          refine ⟨D, _, _, rfl, rfl, hM, szl (by omega), ?_⟩
          have tk := tk_lst (K := K) (o := .lst (us ++ [.ref b])) hM
          refine ⟨_, us ++ [.ref b], fs ++ [l], rfl, same_at hD s4, upd_same, ?_, nodup_snoc ndf m, by rw [List.length_append]; show fs.length + 1 ≤ 20 + (i + 1); omega, fun z => ?_⟩
          · rw [List.map_append]
            exact da_app (da_tk tk _ _ (tup_lits _) hus) (da_one (dp_tk tk _ _ rfl dl4))
          · rw [List.mem_append, mem z, mtk z, List.mem_singleton]
            constructor
            · rintro ((a | a) | a)
              · exact .inl a
              · exact .inr ⟨.inl a.1, a.2⟩
              · exact .inr ⟨.inr a, by rw [a]; exact h7⟩
            · rintro (a | ⟨a | a, e⟩)
              · exact .inl (.inl a)
              · exact .inl (.inr ⟨a, e⟩)
              · exact .inr a
      · walk_at "rd"
        exact ⟨_, us, fs, rfl, s4, hM, hus, ndf, by omega, keep fun h => absurd (decide_eq_true h) h6⟩
    rintro σ H4 ⟨o4, us, fs, rfl, s4, hM, hus, ndf, lf, mem⟩
    rw [yl, List.take_length] at mem
    have memL : ∀ l, l ∈ fs ↔ l ∈ lits c d n := fun l => by
      rw [mem l, lits_mem]
      constructor
      · rintro (a | a)
        · exact .inl ⟨a.1, fun e => a.2 (by rw [e])⟩
        · exact .inr ⟨a.1, fun e => a.2 (by rw [e])⟩
      · rintro (a | a)
        · exact .inl ⟨a.1, fun e => a.2 (up_one vc.1 l a.1 _ m1 e)⟩
        · exact .inr ⟨a.1, fun e => a.2 (up_one vd.1 l a.1 _ m2 e)⟩
    have okf : OkC fs := fun z hz => by
      rcases (mem z).mp hz with h | h
      · exact oc z h.1
      · exact od z h.1
    have sgf : ∀ z ∈ fs, z.2 = 0 ∨ z.2 = 1 := fun z hz => by
      rcases (mem z).mp hz with h | h
      · exact (vc.2 z h.1).2
      · exact (vd.2 z h.1).2
    have lf2 : fs.length ≤ 40 := by omega
    have yesC : ∀ o, IsRes c d n o → CutR c d n o := fun o h => by
      unfold CutR
      rw [if_pos ⟨m1, m2⟩]
      exact h
    have ul : us.length = fs.length := by rw [da_len hus, List.length_map]
    walk_at "rd"
    refine ⟨⟨_, sq hM⟩, for_it (walk_list (K := K) (a := D) (xs := us)) (fun i σ H' => ∃ o4 : Option V, σ = [some (.ref p), some (.ref q), some (.str n), some (.ref D), o4] ∧ Same H4 H' ∧ ∀ l ∈ fs.take i, (l.1, 1 - l.2) ∉ fs) ⟨_, rfl, Same.refl H4, fun l hl => (by simp at hl)⟩ (fun i σ H' _ ⟨_, _, s, _⟩ => sq (s _ _ hM)) ?_ ?_⟩
    · rintro i x σ H5 H6 hi ⟨o4, rfl, s5, no⟩ ⟨rfl, hx⟩
      obtain ⟨l, hl, dl⟩ := da_atM hus hx
      obtain ⟨b, rfl, hb⟩ := lit_dp (dp_same s5 dl)
      have lm := List.mem_of_getElem? hl
      walk_at "rd"
      refine ⟨_, _, _, _, rfl, rfl, hb, atI_nat (j := 0) rfl, ?_⟩
      walk_at "rd"
      refine ⟨_, _, _, _, rfl, rfl, hb, atI_nat (j := 1) rfl, ?_⟩
      walk_at "rd"
      refine ⟨sz (by show 2 ≤ 100000; decide), fun T nT => ?_⟩
      have sT := same_new nT (o := .tup [.str l.1, .int (1 - l.2)])
      have hT := upd_same (H := H6) (a := T) (o := .tup [.str l.1, .int (1 - l.2)])
      generalize upd H6 T (.tup [.str l.1, .int (1 - l.2)]) = H7 at sT hT ⊢
      have s57 := s5.trans sT
      walk_at "rd"
      refine ⟨litD (l.1, 1 - l.2), fs.map litD, dp_lit (sqt hT), .lst (sq (s57 _ _ hM)) (dpAll_same s57 hus), sh_lit (l := (l.1, 1 - l.2)) (okf l lm), sh_litsL okf, ?_⟩
      rw [any_lit]
      by_cases m : (l.1, 1 - l.2) ∈ fs
      · rw [decide_eq_true m]
        walk_at "rd"
        refine fin .non none _ (s2.trans (s4.trans s57)) (yesC none ⟨l, (memL l).mp lm, _, (memL _).mp m, rfl, fun e => ?_⟩) rfl
        have z : l.2 = 1 - l.2 := congrArg (·.2) e
        omega
      · rw [decide_eq_false m]
        walk_at "rd"
        refine ⟨s57, fun z hz => ?_⟩
        rw [List.take_add_one, hl] at hz
        rcases List.mem_append.mp hz with h | h
        · exact no z h
        · rw [List.mem_singleton.mp h]
          exact m
    · rintro σ H5 ⟨o4, rfl, s5, no⟩
      rw [ul, List.take_length] at no
      walk_at "rd"
      have hM5 := s5 _ _ hM
      have hus5 := dpAll_same s5 hus
      refine ⟨D, us, fs.map litD, rfl, sq hM5, hus5, all_alike alike_lit fs, fun e he => (by obtain ⟨l, _, rfl⟩ := List.mem_map.mp he; exact ⟨_, rfl⟩), by rw [List.length_map]; exact sz (by omega), fun e he => (by obtain ⟨l, _, rfl⟩ := List.mem_map.mp he; show 1 ≤ 60; decide), fun zs R nR dR => ?_⟩
      have sR := same_new nR (o := .lst zs)
      have hR := upd_same (H := H5) (a := R) (o := .lst zs)
      have dR2 := dpAll_same sR dR
      have pm : ((fs.map litD).mergeSort So.dle).Perm (fs.map litD) := List.mergeSort_perm _ _
      have srt := PySem.W.sort_pairwise dle_total (fs.map litD)
      obtain ⟨ls, els⟩ := unmap (f := litD) (l := (fs.map litD).mergeSort So.dle) fun e he => (by obtain ⟨l, _, e⟩ := List.mem_map.mp (pm.mem_iff.mp he); exact ⟨l, e⟩)
      rw [els] at dR2 pm srt
      have pe : ls.Perm fs := perm_unmap (fun x y e => lit_inj e) pm
      have ndn : (ls.map (·.1)).Nodup := by
        refine List.pairwise_map.mpr ?_
        have ndl : ls.Pairwise fun x y => x ≠ y := pe.nodup_iff.mpr ndf
        refine List.Pairwise.imp_of_mem (fun {a b} ha hb ne e => ?_) ndl
        have fa := pe.mem_iff.mp ha
        have fb := pe.mem_iff.mp hb
        refine no a fa ?_
        have e2 : (a.1, 1 - a.2) = b := Prod.ext e (by
          have x1 := sgf a fa
          have x2 := sgf b fb
          have x3 : a.2 ≠ b.2 := fun z => ne (Prod.ext e z)
          show 1 - a.2 = b.2
          omega)
        rw [e2]
        exact fb
      generalize upd H5 R (.lst zs) = H6 at sR hR dR2 ⊢
      walk_at "rd"
      refine ⟨R, _, rfl, .inl ⟨sq hR, fun t nt => ?_⟩⟩
      have st := same_new nt (o := .tup zs)
      exact fin (.ref t) (some ls) _ (s2.trans (s4.trans (s5.trans (sR.trans st)))) (yesC _ ⟨fun l => pe.mem_iff.trans (memL l), up_of srt ndn⟩) (.tup (sqt upd_same) (dpAll_same st dR2))
end
end K08
namespace K08
local macro_rules | `(tactic| walk_at "rd") => `(tactic| repeat (first | refine ⟨rfl, ?_⟩ | refine ⟨_, rfl, ?_⟩ | refine ⟨_, _, rfl, rfl, ?_⟩ | refine ⟨⟨_, rfl⟩, ?_⟩))
open PySem PySem.Spec PyProof.Rows L2 Bx TL Dx Zx Ow Sup NdefX Px
section
variable {P : Program} {w : World} {K : PySem.W.Frag} {mg : Str → Option Value} {base : Heap}
theorem ln_giv {H : Hp} {v : V} {i : Int} (h : Dp K H v (lnD (.giv i))) : ∃ t, v = .ref t ∧ SqT K H t [.str (Str.ofString "given"), .int i] := by
  obtain ⟨t, us, rfl, ht, ha⟩ := dp_tup h
  cases ha with
  | cons a1 ha =>
  cases ha with
  | cons a2 ha =>
  cases ha
  cases a1
  cases a2
  exact ⟨t, rfl, ht⟩
theorem ln_cut {H : Hp} {v : V} {i j : Int} {n : Str} (h : Dp K H v (lnD (.cut i j n))) : ∃ t, v = .ref t ∧ SqT K H t [.str (Str.ofString "cut"), .int i, .int j, .str n] := by
  obtain ⟨t, us, rfl, ht, ha⟩ := dp_tup h
  cases ha with
  | cons a1 ha =>
  cases ha with
  | cons a2 ha =>
  cases ha with
  | cons a3 ha =>
  cases ha with
  | cons a4 ha =>
  cases ha
  cases a1
  cases a2
  cases a3
  cases a4
  exact ⟨t, rfl, ht⟩
theorem clAt_no {cs : List Cl} {i : Int} (h : ¬ (0 ≤ i ∧ i < (cs.length : Int))) : clAt cs i = none := by
  unfold clAt
  split
  · exact List.getElem?_eq_none (by omega)
  · rfl
theorem clAt_yes {H : Hp} {xs : List V} {cs : List Cl} {i : Int} (hd : DpAll K H xs (cs.map clD)) (h : 0 ≤ i ∧ i < (cs.length : Int)) : ∃ v c, atI xs i = some v ∧ clAt cs i = some c ∧ Dp K H v (clD c) := by
  obtain ⟨n, rfl⟩ := Int.eq_ofNat_of_zero_le h.1
  have xl : xs.length = cs.length := by rw [da_len hd, List.length_map]
  have hn : n < xs.length := by omega
  have ev := List.getElem?_eq_getElem hn
  obtain ⟨c, hc, dv⟩ := da_atM hd ev
  refine ⟨xs[n], c, atI_nat ev, ?_, dv⟩
  unfold clAt
  rw [if_pos h.1]
  exact hc
@[irreducible] def spStep (K : PySem.W.Frag) : Sp := fun vs H Q _ => ∃ (p b : Addr) (v : V) (xs ys : List V) (ns : List Str) (cs bs : List Cl) (ln : Ln), vs = [.ref p, .ref b, v] ∧ SqL K H p xs ∧ DpAll K H xs (cs.map clD) ∧ SqL K H b ys ∧ DpAll K H ys (bs.map clD) ∧ Dp K H v (lnD ln) ∧ OkLn ln ∧ (∀ c ∈ cs, Vc ns c) ∧ (∀ c ∈ bs, Vc ns c) ∧ (∀ z ∈ ns, Tx 17 z) ∧ ns.length ≤ 20 ∧ cs.length ≤ 1000 ∧ bs.length ≤ 1000 ∧
  ∀ (v : V) (o : Option Cl) (H' : Hp), Same H H' → Der cs bs ln o → OD K H' v o → Q v H'
theorem ok_step {f : Addr} {fd : FuncData} (F : Fun K "_law_step" "_law_step" s__law_step f fd) (m_len : mg "len" = none) (C__law_cut : Cal P w K mg base "_law_cut" 1 ["_law_first", "_law_second", "_law_name"] (spCut K)) : FnOk P w K mg base CX0 2 f fd ["_law_clauses_here", "_law_found", "_law_step_here"] (spStep K) := by
  refine F.ok sc__law_step (fun vs H Q E h => ?_) (fun cdv A outer s H vs Q E hr h => ?_)
  · unfold spStep at h
    obtain ⟨p, b, v, xs, ys, ns, cs, bs, ln, rfl, _⟩ := h
    rfl
  · unfold spStep at h
    obtain ⟨p, b, v, xs, ys, ns, cs, bs, ln, rfl, hp, hd, hb, hbd, hln, okl, vc, vb, tx, nl, lc, lb, q⟩ := h
    have xl : xs.length = cs.length := by rw [da_len hd, List.length_map]
    have yl : ys.length = bs.length := by rw [da_len hbd, List.length_map]
    refine ⟨_, (pss_cons (ps_if (pt_cmpR op_eq (pe_ix ix_tup (pv 2) pe_int (fun _ _ => rfl)) pe_str (nomark _))
      (pss_cons (ps_if (pt_chain op_le op_lt pe_int (pe_ix ix_tup (pv 2) pe_int (fun _ _ => rfl)) (pe_callB call_len_seq (by rfl) m_len PySem.boot_len (pa_cons (pv 0) pa_nil)))
      (pss_one (ps_ret (pe_ix ix_list (pv 0) (pe_ix ix_tup (pv 2) pe_int (fun _ _ => rfl)) (fun _ _ => rfl))))
      pss_nil)
    (pss_one (ps_ret pe_non)))
      pss_nil)
    (pss_cons (ps_if (PW.pt (pw_and (pt_chain op_le op_lt pe_int (pe_ix ix_tup (pv 2) pe_int (fun _ _ => rfl)) (pe_callB call_len_seq (by rfl) m_len PySem.boot_len (pa_cons (pv 1) pa_nil))) (pw_and1 (pt_chain op_le op_lt pe_int (pe_ix ix_tup (pv 2) pe_int (fun _ _ => rfl)) (pe_callB call_len_seq (by rfl) m_len PySem.boot_len (pa_cons (pv 1) pa_nil))))))
      (pss_one (ps_ret (pe_cal C__law_cut (hr.mono (by decide)) (pa_cons (pe_ix ix_list (pv 1) (pe_ix ix_tup (pv 2) pe_int (fun _ _ => rfl)) (fun _ _ => rfl)) (pa_cons (pe_ix ix_list (pv 1) (pe_ix ix_tup (pv 2) pe_int (fun _ _ => rfl)) (fun _ _ => rfl)) (pa_cons (pe_ix ix_tup (pv 2) pe_int (fun _ _ => rfl)) pa_nil))))))
      pss_nil)
    (pss_one (ps_ret pe_non)))), ?_⟩
    walk_at "rd"
    cases ln with
    | giv i =>
      obtain ⟨t, rfl, ht⟩ := ln_giv hln
      have no : ¬ (0 ≤ i ∧ i < (cs.length : Int)) → Q .non H := fun h => q .non none H (Same.refl H) (show none = clAt cs i from (clAt_no h).symm) rfl
      refine ⟨_, _, _, _, rfl, rfl, ht, atI_nat (j := 0) rfl, ?_⟩
      walk_at "rd"
      refine ⟨_, _, _, _, rfl, rfl, ht, atI_nat (j := 1) rfl, ?_⟩
      walk_at "rd"
      refine ite2 (fun h6 => ?_) (fun h6 => ?_)
      · have h0 : 0 ≤ i := of_decide_eq_true h6
        walk_at "rd"
        refine ⟨p, xs, rfl, .inl hp, ?_⟩
        walk_at "rd"
        refine ite2 (fun h7 => ?_) (fun h7 => ?_)
        · have h1 : i < (xs.length : Int) := of_decide_eq_true h7
          obtain ⟨u, c, e1, e2, dc⟩ := clAt_yes hd ⟨h0, by omega⟩
          walk_at "rd"
          refine ⟨_, _, _, _, rfl, rfl, ht, atI_nat (j := 1) rfl, ?_⟩
          refine ⟨_, _, _, _, rfl, rfl, hp, e1, ?_⟩
          exact q u (some c) H (Same.refl H) (show some c = clAt cs i from e2.symm) dc
        · have h1 : ¬ i < (xs.length : Int) := of_decide_eq_false (by simpa using h7)
          walk_at "rd"
          exact no fun z => h1 (by omega)
      · have h0 : ¬ 0 ≤ i := of_decide_eq_false (by simpa using h6)
        walk_at "rd"
        exact no fun z => h0 z.1
    | cut i j n =>
      obtain ⟨t, rfl, ht⟩ := ln_cut hln
      have noI : clAt bs i = none ∨ clAt bs j = none → Q .non H := fun h => by
        refine q .non none H (Same.refl H) ?_ rfl
        show (match clAt bs i, clAt bs j with | some c, some d => _ | _, _ => none = none)
        rcases h with h | h
        · rw [h]
        · rw [h]
          cases clAt bs i <;> rfl
      refine ⟨_, _, _, _, rfl, rfl, ht, atI_nat (j := 0) rfl, ?_⟩
      walk_at "rd"
      refine ⟨_, _, _, _, rfl, rfl, ht, atI_nat (j := 1) rfl, ?_⟩
      walk_at "rd"
      have off : ∀ k : Int, ¬ (0 ≤ k ∧ k < (ys.length : Int)) → clAt bs k = none := fun k h => clAt_no fun z => h ⟨z.1, by omega⟩
      refine ite2 (fun h1 => ?_) (fun h1 => ?no1)
      case no1 =>
        walk_at "rd"
        exact noI (.inl (off i fun z => h1 (decide_eq_true z.1)))
      walk_at "rd"
      refine ⟨b, ys, rfl, .inl hb, ?_⟩
      walk_at "rd"
      refine ite2 (fun h2 => ?_) (fun h2 => ?no2)
      case no2 =>
        walk_at "rd"
        exact noI (.inl (off i fun z => h2 (decide_eq_true z.2)))
      walk_at "rd"
      refine ⟨_, _, _, _, rfl, rfl, ht, atI_nat (j := 2) rfl, ?_⟩
      walk_at "rd"
      refine ite2 (fun h3 => ?_) (fun h3 => ?no3)
      case no3 =>
        walk_at "rd"
        exact noI (.inr (off j fun z => h3 (decide_eq_true z.1)))
      walk_at "rd"
      refine ⟨b, ys, rfl, .inl hb, ?_⟩
      walk_at "rd"
      refine ite2 (fun h4 => ?_) (fun h4 => ?no4)
      case no4 =>
        walk_at "rd"
        exact noI (.inr (off j fun z => h4 (decide_eq_true z.2)))
      have i0 : 0 ≤ i := of_decide_eq_true h1
      have i1 : i < (ys.length : Int) := of_decide_eq_true h2
      have j0 : 0 ≤ j := of_decide_eq_true h3
      have j1 : j < (ys.length : Int) := of_decide_eq_true h4
      obtain ⟨u1, c, a1, e1, d1⟩ := clAt_yes hbd ⟨i0, by omega⟩
      obtain ⟨u2, d, a2, e2, d2⟩ := clAt_yes hbd ⟨j0, by omega⟩
      obtain ⟨b1, zs1, rfl, _⟩ := dp_tup d1
      obtain ⟨b2, zs2, rfl, _⟩ := dp_tup d2
      walk_at "rd"
      refine ⟨_, _, _, _, rfl, rfl, ht, atI_nat (j := 1) rfl, ?_⟩
      refine ⟨_, _, _, _, rfl, rfl, hb, a1, ?_⟩
      walk_at "rd"
      refine ⟨_, _, _, _, rfl, rfl, ht, atI_nat (j := 2) rfl, ?_⟩
      refine ⟨_, _, _, _, rfl, rfl, hb, a2, ?_⟩
      walk_at "rd"
      refine ⟨_, _, _, _, rfl, rfl, ht, atI_nat (j := 3) rfl, ?_⟩
      walk_at "rd"
      show spCut K _ _ _ _
      unfold spCut
      refine ⟨b1, b2, c, d, n, ns, rfl, d1, d2, vb c (clAt_mem e1), vb d (clAt_mem e2), tx, nl, okl.2.2, fun v o H' s' hres hov => q v o H' s' ?_ hov⟩
      show (match clAt bs i, clAt bs j with | some c, some d => if (n, (1 : Int)) ∈ c ∧ (n, (0 : Int)) ∈ d then IsRes c d n o else o = none | _, _ => o = none)
      rw [e1, e2]
      exact hres
@[irreducible] def spRep (K : PySem.W.Frag) : Sp := fun vs H Q _ => ∃ (p q : Addr) (xs zs : List V) (ns : List Str) (cs : List Cl) (lns : List Ln), vs = [.ref p, .ref q] ∧ SqL K H p xs ∧ DpAll K H xs (cs.map clD) ∧ SqL K H q zs ∧ DpAll K H zs (lns.map lnD) ∧ (∀ x ∈ lns, OkLn x) ∧ (∀ c ∈ cs, Vc ns c) ∧ (∀ z ∈ ns, Tx 17 z) ∧ ns.length ≤ 20 ∧ cs.length ≤ 1000 ∧ lns.length ≤ 1000 ∧
  ∀ (v : V) (r : Option (List Cl)) (H' : Hp), Same H H' → Run cs [] lns r → RD K H' v r → Q v H'
theorem ok_replayed {f : Addr} {fd : FuncData} (F : Fun K "_law_replayed" "_law_replayed" s__law_replayed f fd) (m_tuple : mg "tuple" = none) (C__law_step : Cal P w K mg base "_law_step" 2 ["_law_clauses_here", "_law_found", "_law_step_here"] (spStep K)) : FnOk P w K mg base CX0 3 f fd ["_law_clauses_here", "_law_steps_here"] (spRep K) := by
  refine F.ok sc__law_replayed (fun vs H Q E h => ?_) (fun cdv A outer s H vs Q E hr h => ?_)
  · unfold spRep at h
    obtain ⟨p, q, xs, zs, ns, cs, lns, rfl, _⟩ := h
    rfl
  · unfold spRep at h
    obtain ⟨p, q, xs, zs, ns, cs, lns, rfl, hp, hd, hq, hz, okl, vc, tx, nl, lc, ll, fin⟩ := h
    refine ⟨_, (pss_cons (ps_set (i := 2) sc__law_replayed.nd rfl (Or.inl rfl) (pe_lst pa_nil))
    (pss_cons (ps_for PassesOwn.never rfl (pi_list (pv 1)) (pg_name (i := 3) sc__law_replayed.nd rfl (Or.inl rfl))
      (pss_cons (ps_set (i := 4) sc__law_replayed.nd rfl (Or.inl rfl) (pe_cal C__law_step (hr.mono (by decide)) (pa_cons (pv 0) (pa_cons (pv 2) (pa_cons (pv 3) pa_nil)))))
    (pss_cons (ps_if (pt_cmpR op_isN (pv 4) pe_non (nomark _))
      (pss_one (ps_ret pe_non))
      pss_nil)
    (pss_one (ps_expr (pe_bm PySem.F.plainAttrs_list PySem.F.slot_list_append PySem.F.type_list_append mt_append (pv 2) (pa_cons (pv 4) pa_nil)))))))
    (pss_one (ps_ret (pe_callTy (T := "tuple") call_tuple_of (by rfl) m_tuple (by decide +kernel) (pa_cons (pv 2) pa_nil)))))), ?_⟩
    walk_at "rd"
    refine ⟨sz (by decide), fun D nD => ?_⟩
    have s0 := same_new nD (o := .lst ([] : List V))
    have zl : zs.length = lns.length := by rw [da_len hz, List.length_map]
    walk_at "rd"
    refine ⟨⟨_, s0.seq hq⟩, for_it (walk_list (K := K) (a := q) (xs := zs)) (fun i σ H' => ∃ (o3 o4 : Option V) (ys : List V) (bs : List Cl), σ = [some (.ref p), some (.ref q), some (.ref D), o3, o4] ∧ Same H H' ∧ H' D = some (.lst ys) ∧ DpAll K H' ys (bs.map clD) ∧ bs.length = i ∧ (∀ c ∈ bs, Vc ns c) ∧ ∀ r, Run cs bs (lns.drop i) r → Run cs [] lns r)
      ⟨none, none, [], [], rfl, s0, upd_same, .nil, rfl, (fun c hc => by cases hc), fun r h => h⟩ (fun i σ H' _ ⟨_, _, _, _, _, s, _⟩ => s.seq hq) ?_ ?_⟩
    · rintro i x σ H1 H2 hi ⟨o3, o4, ys, bs, rfl, s1, hD, hbd, bl, vb, back⟩ ⟨rfl, hx⟩
      obtain ⟨ln, hln, dl⟩ := da_atM hz hx
      have dr : lns.drop i = ln :: lns.drop (i + 1) := by
        obtain ⟨h, e⟩ := List.getElem?_eq_some_iff.mp hln
        rw [List.drop_eq_getElem_cons h, e]
      walk_at "rd"
      show spStep K _ _ _ _
      unfold spStep
      refine ⟨p, D, x, xs, ys, ns, cs, bs, ln, rfl, s1.seq hp, dpAll_same s1 hd, sq hD, hbd, dp_same s1 dl, okl ln (List.mem_of_getElem? hln), vc, vb, tx, nl, lc, by omega, fun v o H3 s3 hder hov => ?_⟩
      have s13 := s1.trans s3
      walk_at "rd"
      cases o with
      | none =>
        have e : v = .non := hov
        subst e
        refine ite2 (fun _ => ?_) (fun h => absurd (show decide (V.non = V.non) = true by simp) h)
        walk_at "rd"
        exact fin .non none H3 s13 (back none (by rw [dr]; exact .stop hder)) rfl
      | some c =>
        have dc : Dp K H3 v (clD c) := hov
        obtain ⟨b, zs1, rfl, _⟩ := dp_tup dc
        refine ite2 (fun h => absurd h (by simp)) (fun _ => ?_)
        walk_at "rd"
        have hD3 := s3 _ _ hD
        refine ⟨.inl ⟨rfl, _, sq hD3⟩, ?_⟩
        walk_at "rd"
        have yl : ys.length = bs.length := by rw [da_len hbd, List.length_map]
        refine ⟨D, _, _, rfl, rfl, hD3, szl (by omega), ?_⟩
        have tk := tk_lst (K := K) (o := .lst (ys ++ [.ref b])) hD3
        refine ⟨_, _, ys ++ [.ref b], bs ++ [c], rfl, same_at nD s13, upd_same, ?_, by rw [List.length_append, bl]; rfl, fun x hx => ?_, fun r h => back r (by rw [dr]; exact .step hder h)⟩
        · rw [List.map_append]
          exact da_app (da_tk tk _ _ (tup_cls _) (dpAll_same s3 hbd)) (da_one (dp_tk tk _ _ (tup_lits c) dc))
        · rcases List.mem_append.mp hx with h | h
          · exact vb x h
          · rw [List.mem_singleton.mp h]
            exact der_vc vc vb hder
    · rintro σ H1 ⟨o3, o4, ys, bs, rfl, s1, hD, hbd, bl, vb, back⟩
      rw [zl, List.drop_length] at back
      walk_at "rd"
      refine ⟨D, _, rfl, .inl ⟨sq hD, fun t nt => ?_⟩⟩
      have st := same_new nt (o := .tup ys)
      exact fin (.ref t) (some bs) _ (s1.trans st) (back _ (.done bs)) (.tup (sqt upd_same) (dpAll_same st hbd))
end
end K08
namespace K08
local macro_rules | `(tactic| walk_at "rd") => `(tactic| repeat (first | refine ⟨rfl, ?_⟩ | refine ⟨_, rfl, ?_⟩ | refine ⟨_, _, rfl, rfl, ?_⟩ | refine ⟨⟨_, rfl⟩, ?_⟩))
open PySem PySem.Spec PyProof.Rows L2 Bx TL Dx Zx Ow Sup NdefX Px
section
variable {P : Program} {w : World} {K : PySem.W.Frag} {mg : Str → Option Value} {base : Heap}
theorem slice_tail {H : Hp} {ca : Addr} {xs : List V} {z : Int} (ez : z = ((1 : Nat) : Int)) (hc : SqT K H ca xs) {Z : VK} (q : ∀ c' H', Same H H' → SqT K H' c' (xs.drop 1) → Z (.ref c') H') : rSlA K (.ref ca) (some z) none H Z := by
  subst ez
  refine ⟨ca, xs, rfl, hc, fun h => ?_, fun h p np => ?_⟩
  · have e : min 1 xs.length = 0 := by
      rw [← HT.sIx_nat xs.length 0 1]
      exact h.1
    have e2 : xs = [] := List.length_eq_zero_iff.mp (by omega)
    subst e2
    exact q ca H (Same.refl H) hc
  · refine q p _ (same_new np) ?_
    have e : cutV xs (some ((1 : Nat) : Int)) none = xs.drop 1 := by
      unfold cutV
      rw [HT.sIx_nat, HT.sIx_none]
      rcases Nat.eq_zero_or_pos xs.length with z | z
      · have e2 : xs = [] := List.length_eq_zero_iff.mp z
        subst e2
        rfl
      · rw [Nat.min_eq_left z]
        exact List.take_of_length_le (by rw [List.length_drop]; exact Nat.le_refl _)
    rw [e]
    exact sqt upd_same
theorem dp_tail {H H' : Hp} {c : Cl} {xs : List V} {p : Addr} (ha : DpAll K H' xs (c.map litD)) (hp : SqT K H' p (xs.drop 1)) : Dp K H' (.ref p) (clD c.tail) := by
  cases c with
  | nil =>
    cases ha
    exact .tup hp .nil
  | cons x c =>
    cases ha with
    | cons h1 h2 => exact .tup hp h2
theorem vc_tail {ns : List Str} {c : Cl} (v : Vc ns c) : Vc ns c.tail := by
  cases c with
  | nil => exact v
  | cons x c => exact ⟨(List.pairwise_cons.mp v.1).2, fun l hl => v.2 l (List.mem_cons_of_mem _ hl)⟩
/-- the clauses so far -/
def Cs (K : PySem.W.Frag) (src L : Addr) (H H' : Hp) (ns : List Str) (m : Nat) : Prop := SameBut src H H' ∧ Src H' src ∧ ∃ (us : List V) (cs : List Cl), H' L = some (.lst us) ∧ DpAll K H' us (cs.map clD) ∧ cs.length ≤ m ∧ ∀ c ∈ cs, Vc ns c
theorem cs_app {src L : Addr} {H H' : Hp} {ns : List Str} {m : Nat} {us : List V} {cs : List Cl} {v : V} {c : Cl} (nL : H L = none) (nLs : src ≠ L) (s : SameBut src H H') (hA : Src H' src) (hL : H' L = some (.lst us)) (hd : DpAll K H' us (cs.map clD)) (hm : cs.length ≤ m) (vc : ∀ c ∈ cs, Vc ns c) (dv : Dp K H' v (clD c)) (vv : Vc ns c) : Cs K src L H (upd H' L (.lst (us ++ [v]))) ns (m + 1) := by
  have tk := tk_lst (K := K) (o := .lst (us ++ [v])) hL
  refine ⟨but_at nL s, src_upd hA nLs, us ++ [v], cs ++ [c], upd_same, ?_, by rw [List.length_append]; show cs.length + 1 ≤ m + 1; omega, fun x hx => ?_⟩
  · rw [List.map_append]
    exact da_app (da_tk tk _ _ (tup_cls _) hd) (da_one (dp_tk tk _ _ (tup_lits c) dv))
  · rcases List.mem_append.mp hx with h | h
    · exact vc x h
    · rw [List.mem_singleton.mp h]
      exact vv
@[irreducible] def spClauses (K : PySem.W.Frag) : Sp := fun vs H Q _ => ∃ (s na : Addr) (ns : List Str), vs = [.ref s, .ref na] ∧ Src H s ∧ SqT K H na (ns.map V.str) ∧ Asc ns ∧ ns.length ≤ 20 ∧ ∀ (r : Addr) (us : List V) (cs : List Cl) (H' : Hp), SameBut s H H' → Src H' s → H r = none → H' r = some (.lst us) → DpAll K H' us (cs.map clD) → cs.length ≤ 8 → (∀ c ∈ cs, Vc ns c) → Q (.ref r) H'
set_option maxHeartbeats 2000000 in
theorem ok_clauses {f : Addr} {fd : FuncData} (F : Fun K "_law_clauses" "_law_clauses" s__law_clauses f fd) (m_range : mg "range" = none) (m_len : mg "len" = none) (C__law_draw : CDraw P w K mg base) (C__law_clause : Cal P w K mg base "_law_clause" 2 ["_law_source_here", "_law_names_here"] (spClause K)) : FnOk P w K mg base CX0 3 f fd ["_law_source_here", "_law_names_here"] (spClauses K) := by
  refine F.ok sc__law_clauses (fun vs H Q E h => ?_) (fun cdv A outer s H vs Q E hr h => ?_)
  · unfold spClauses at h
    obtain ⟨s, na, ns, rfl, _⟩ := h
    rfl
  · unfold spClauses at h
    obtain ⟨src, na, ns, rfl, hA, hna, asc, nl, q⟩ := h
    refine ⟨_, (pss_cons (ps_set (i := 2) sc__law_clauses.nd rfl (Or.inl rfl) (pe_lst pa_nil))
    (pss_cons (ps_for PassesOwn.never rfl (pi_range1 (by rfl) m_range (pa_cons (pe_cal C__law_draw (hr.mono (by decide)) (pa_cons (pv 0) (pa_cons pe_int pa_nil))) pa_nil)) (pg_name (i := 3) sc__law_clauses.nd rfl (Or.inl rfl))
      (pss_cons (ps_set (i := 4) sc__law_clauses.nd rfl (Or.inl rfl) (pe_cal C__law_clause (hr.mono (by decide)) (pa_cons (pv 0) (pa_cons (pv 1) pa_nil))))
    (pss_cons (ps_if (PW.pt (pw_and (pt_cmpR op_gt (pe_callB call_len_seq (by rfl) m_len PySem.boot_len (pa_cons (pv 2) pa_nil)) pe_int (nomark _)) (pw_and1 (pt_cmpR op_eq (pe_cal C__law_draw (hr.mono (by decide)) (pa_cons (pv 0) (pa_cons pe_int pa_nil))) pe_int (nomark _)))))
      (pss_cons (ps_set (i := 4) sc__law_clauses.nd rfl (Or.inl rfl) (pe_ix ix_list (pv 2) (pe_cal C__law_draw (hr.mono (by decide)) (pa_cons (pv 0) (pa_cons (pe_callB call_len_seq (by rfl) m_len PySem.boot_len (pa_cons (pv 2) pa_nil)) pa_nil))) (fun _ _ => rfl)))
    (pss_one (ps_if (pt_cmpR op_eq (pe_cal C__law_draw (hr.mono (by decide)) (pa_cons (pv 0) (pa_cons pe_int pa_nil))) pe_int (nomark _))
      (pss_one (ps_set (i := 4) sc__law_clauses.nd rfl (Or.inl rfl) (pe_slice sl_tupA (pv 4) (po_some pe_int) po_none)))
      pss_nil)))
      pss_nil)
    (pss_one (ps_expr (pe_bm PySem.F.plainAttrs_list PySem.F.slot_list_append PySem.F.type_list_append mt_append (pv 2) (pa_cons (pv 4) pa_nil)))))))
    (pss_one (ps_ret (pv 2))))), ?_⟩
    walk_at "rd"
    refine ⟨sz (by decide), fun L nL => ?_⟩
    have nLs := src_ne hA nL
    have sL := same_new nL (o := .lst ([] : List V))
    have hL0 := upd_same (H := H) (a := L) (o := .lst ([] : List V))
    walk_at "rd"
    refine draw_of (lim := 8) (src_same hA sL) (by decide) fun r H1 h0 h1 s1 hA1 => ?_
    have c0 : Cs K src L H H1 ns 0 := ⟨but_new nL s1, hA1, [], [], s1 _ _ nLs.symm hL0, .nil, Nat.le_refl _, fun c hc => (by cases hc)⟩
    walk_at "rd"
    refine ⟨by omega, by omega, for_it walk_range (fun i σ H' => ∃ (o3 o4 : Option V), σ = [some (.ref src), some (.ref na), some (.ref L), o3, o4] ∧ Cs K src L H H' ns i)
      ⟨none, none, rfl, c0⟩ (fun _ _ _ _ _ => trivial) ?_ ?_⟩
    · rintro i x σ H2 H2' hi ⟨o3, o4, rfl, s2, hA2, us, cs, hL2, hd2, hm2, vc2⟩ ⟨rfl, rfl⟩
      have ul : us.length = cs.length := by rw [da_len hd2, List.length_map]
      walk_at "rd"
      show spClause K _ _ _ _
      unfold spClause
      refine ⟨src, na, ns, rfl, hA2, sqt_but hA s2 hna, asc, nl, fun v c H3 s3 hA3 dv vv => ?_⟩
      have hL3 := s3 _ _ nLs.symm hL2
      dsimp only [gName]
      refine st_gi (i := 4) (fun v H' => SameBut src H2' H' ∧ Src H' src ∧ ∃ c, Dp K H' v (clD c) ∧ Vc ns c) (fun D' hD' => ?_) ?_
      · walk_at "rd"
        refine ⟨_, _, rfl, .inl (sq hL3), ?_⟩
        walk_at "rd"
        refine ite2 (fun h6 => ?_) (fun h6 => ?_)
        · have h8 : 0 < cs.length := by
            have z1 : (0 : Int) < (us.length : Nat) := of_decide_eq_true h6
            omega
          walk_at "rd"
          refine draw_of (lim := 3) hA3 (by decide) fun r4 H4 _ _ s4 hA4 => ?_
          have s24 := s3.trans s4
          have hL4 := s24 _ _ nLs.symm hL2
          have hd4 := da_tk (tk_but hA2 s24) _ _ (tup_cls _) hd2
          walk_at "rd"
          refine ite2 (fun h7 => ?_) (fun h7 => ?_)
          · walk_at "rd"
            refine ⟨_, _, rfl, .inl (sq hL4), ?_⟩
            refine draw_of hA4 ⟨by omega, by omega⟩ fun r5 H5 h50 h51 s5 hA5 => ?_
            obtain ⟨m, rfl⟩ := Int.eq_ofNat_of_zero_le h50
            have hm : m < us.length := by omega
            have ev := List.getElem?_eq_getElem hm
            have s25 := s24.trans s5
            have hL5 := s25 _ _ nLs.symm hL2
            have hd5 := da_tk (tk_but hA2 s25) _ _ (tup_cls _) hd2
            obtain ⟨c5, hc5, dc5⟩ := da_atM hd5 ev
            refine ⟨_, _, _, _, rfl, rfl, sq hL5, atI_nat ev, ?_⟩
            have v5 := vc2 c5 (List.mem_of_getElem? hc5)
            generalize us[m] = u5 at dc5 ⊢
            obtain ⟨b5, zs5, rfl, hb5, ha5⟩ := dp_tup dc5
            walk_at "rd"
            refine draw_of (lim := 2) hA5 (by decide) fun r6 H6 _ _ s6 hA6 => ?_
            have s26 := s25.trans s6
            have tk6 := tk_but (K := K) hA5 s6
            walk_at "rd"
            refine ite2 (fun h9 => ?_) (fun h9 => ?_)
            · walk_at "rd"
              unfold tNoPart
              dsimp only
              refine slice_tail (z := 1) rfl (tk6 _ _ hb5) fun p7 H7 s7 hp7 => ?_
              exact hD' _ H7 ⟨s26.trans (Bx.Same.but s7), src_same hA6 s7, c5.tail, dp_tail (H := H6) (da_tk (tk6.trans (tk_same s7)) _ _ (tup_lits _) ha5) hp7, vc_tail v5⟩
            · walk_at "rd"
              exact hD' _ H6 ⟨s26, hA6, c5, dp_tk tk6 _ _ (tup_lits _) dc5, v5⟩
          · walk_at "rd"
            exact hD' _ H4 ⟨s24, hA4, c, dp_tk (tk_but hA3 s4) _ _ (tup_lits _) dv, vv⟩
        · walk_at "rd"
          exact hD' _ H3 ⟨s3, hA3, c, dv, vv⟩
      rintro v' H4 ⟨s4, hA4, c4, dv4, vv4⟩
      have hL4 := s4 _ _ nLs.symm hL2
      have hd4 := da_tk (tk_but hA2 s4) _ _ (tup_cls _) hd2
      walk_at "rd"
      refine ⟨.inl ⟨rfl, _, sq hL4⟩, ?_⟩
      walk_at "rd"
      refine ⟨L, _, _, rfl, rfl, hL4, szl (by omega), ?_⟩
      exact ⟨_, _, rfl, cs_app nL nLs (s2.trans s4) hA4 hL4 hd4 hm2 vc2 dv4 vv4⟩
    · rintro σ H2 ⟨o3, o4, rfl, s2, hA2, us, cs, hL2, hd2, hm2, vc2⟩
      walk_at "rd"
      exact q L us cs H2 s2 hA2 nL hL2 hd2 (by omega) vc2
end
end K08
namespace K08
local macro_rules | `(tactic| walk_at "rd") => `(tactic| repeat (first | refine ⟨rfl, ?_⟩ | refine ⟨_, rfl, ?_⟩ | refine ⟨_, _, rfl, rfl, ?_⟩ | refine ⟨⟨_, rfl⟩, ?_⟩))
open PySem PySem.Spec PyProof.Rows L2 Bx TL Dx Zx Ow Sup NdefX Px
theorem half_of {ns : List Str} {c : Cl} {n : Str} {k : Int} (v : Vc ns c) (hn : n ∈ ns) (hk : k = 0 ∨ k = 1) : ((c.filter fun l => decide (l.1 ≠ n)).length ≤ c.length) ∧ ∃ e : Cl, (((c.filter fun l => decide (l.1 ≠ n)) ++ [(n, k)]).map litD).mergeSort So.dle = e.map litD ∧ Vc ns e ∧ (n, k) ∈ e := by
  refine ⟨List.length_filter_le _ _, ?_⟩
  have pm := List.mergeSort_perm (((c.filter fun l => decide (l.1 ≠ n)) ++ [(n, k)]).map litD) So.dle
  have srt := PySem.W.sort_pairwise dle_total (((c.filter fun l => decide (l.1 ≠ n)) ++ [(n, k)]).map litD)
  obtain ⟨e, ee⟩ := unmap (f := litD) (l := (((c.filter fun l => decide (l.1 ≠ n)) ++ [(n, k)]).map litD).mergeSort So.dle) fun d hd => (by obtain ⟨l, _, e⟩ := List.mem_map.mp (pm.mem_iff.mp hd); exact ⟨l, e⟩)
  rw [ee] at pm srt
  have pe : e.Perm ((c.filter fun l => decide (l.1 ≠ n)) ++ [(n, k)]) := perm_unmap (fun x y e => lit_inj e) pm
  have ndc : (c.map (·.1)).Nodup := List.pairwise_map.mpr (v.1.imp fun {a b} (z : a.1.cps.toList < b.1.cps.toList) (e : a.1 = b.1) => List.lt_irrefl b.1.cps.toList (by rw [e] at z; exact z))
  have nde : (e.map (·.1)).Nodup := by
    refine (pe.map (·.1)).nodup_iff.mpr ?_
    rw [List.map_append, List.nodup_append]
    refine ⟨ndc.sublist ((List.filter_sublist ..).map _), List.nodup_cons.mpr ⟨List.not_mem_nil, List.nodup_nil⟩, fun a ha b hb e => ?_⟩
    obtain ⟨x, hx, rfl⟩ := List.mem_map.mp ha
    have e2 : b = n := List.mem_singleton.mp hb
    exact of_decide_eq_true (List.mem_filter.mp hx).2 (e.trans e2)
  refine ⟨e, ee, ⟨up_of srt nde, fun l hl => ?_⟩, pe.mem_iff.mpr (List.mem_append_right _ (List.mem_singleton.mpr rfl))⟩
  rcases List.mem_append.mp (pe.mem_iff.mp hl) with h | h
  · exact v.2 l (List.mem_filter.mp h).1
  · rw [List.mem_singleton.mp h]
    exact ⟨hn, hk⟩
section
variable {P : Program} {w : World} {K : PySem.W.Frag} {mg : Str → Option Value} {base : Heap}
@[irreducible] def spPairs (K : PySem.W.Frag) : Sp := fun vs H Q _ => ∃ (s na : Addr) (ns : List Str), vs = [.ref s, .ref na] ∧ Src H s ∧ SqT K H na (ns.map V.str) ∧ Asc ns ∧ (∀ z ∈ ns, Tx 17 z) ∧ ns.length ≤ 20 ∧ ∀ H', SameBut s H H' → Src H' s → Q (.bl true) H'
set_option maxHeartbeats 4000000 in
theorem ok_pairs {f : Addr} {fd : FuncData} (F : Fun K "_law_pairs_right" "_law_pairs_right" s__law_pairs_right f fd) (m_len : mg "len" = none) (m_tuple : mg "tuple" = none) (m_sorted : mg "sorted" = none) (m_isinstance : mg "isinstance" = none) (C__law_draw : CDraw P w K mg base) (C__law_clause : Cal P w K mg base "_law_clause" 2 ["_law_source_here", "_law_names_here"] (spClause K)) (C__law_cut : Cal P w K mg base "_law_cut" 1 ["_law_first", "_law_second", "_law_name"] (spCut K)) (C_resolvent : Cal P w K mg base "resolvent" 1 ["first", "second", "name"] (spRes K)) : FnOk P w K mg base CX0 3 f fd ["_law_source_here", "_law_names_here"] (spPairs K) := by
  refine F.ok sc__law_pairs_right (fun vs H Q E h => ?_) (fun cdv A outer s H vs Q E hr h => ?_)
  · unfold spPairs at h
    obtain ⟨s, na, ns, rfl, _⟩ := h
    rfl
  · unfold spPairs at h
    obtain ⟨src, na, ns, rfl, hA, hna, asc, tx, nl, q⟩ := h
    refine ⟨_, (pss_cons (ps_if (pt_cmpR op_eq (pe_callB call_len_seq (by rfl) m_len PySem.boot_len (pa_cons (pv 1) pa_nil)) pe_int (nomark _))
      (pss_one (ps_ret pe_bl))
      pss_nil)
    (pss_cons (ps_set (i := 2) sc__law_pairs_right.nd rfl (Or.inr rfl) (pe_ix ix_tup (pv 1) (pe_cal C__law_draw (hr.mono (by decide)) (pa_cons (pv 0) (pa_cons (pe_callB call_len_seq (by rfl) m_len PySem.boot_len (pa_cons (pv 1) pa_nil)) pa_nil))) (fun _ _ => rfl)))
    (pss_cons (ps_set (i := 3) sc__law_pairs_right.nd rfl (Or.inl rfl) (pe_op op_cat (pe_lc (own := [("_law_literal", 7)]) rfl sc__law_pairs_right.nd (pi_tup (pe_cal C__law_clause (hr.mono (by decide)) (pa_cons (pv 0) (pa_cons (pv 1) pa_nil)))) (blkOk_by (N := n__law_pairs_right) (sc := defScope s__law_pairs_right) (by decide +kernel)) (fun _ _ _ _ _ => pg_name (i := 7) sc__law_pairs_right.nd rfl (Or.inl rfl)) (fun _ _ _ _ _ => pts_one (pt_cmpR op_ne (pe_ix (ix_tupK (K := K) rfl) (pv 7) pe_int (fun _ _ => rfl)) (pv 2) (nomark _))) (fun _ _ _ _ _ => (pv 7))) (pe_lst (pa_cons (pe_tup (pa_cons (pv 2) (pa_cons pe_int pa_nil))) pa_nil))))
    (pss_cons (ps_set (i := 4) sc__law_pairs_right.nd rfl (Or.inl rfl) (pe_op op_cat (pe_lc (own := [("_law_literal", 7)]) rfl sc__law_pairs_right.nd (pi_tup (pe_cal C__law_clause (hr.mono (by decide)) (pa_cons (pv 0) (pa_cons (pv 1) pa_nil)))) (blkOk_by (N := n__law_pairs_right) (sc := defScope s__law_pairs_right) (by decide +kernel)) (fun _ _ _ _ _ => pg_name (i := 7) sc__law_pairs_right.nd rfl (Or.inl rfl)) (fun _ _ _ _ _ => pts_one (pt_cmpR op_ne (pe_ix (ix_tupK (K := K) rfl) (pv 7) pe_int (fun _ _ => rfl)) (pv 2) (nomark _))) (fun _ _ _ _ _ => (pv 7))) (pe_lst (pa_cons (pe_tup (pa_cons (pv 2) (pa_cons pe_int pa_nil))) pa_nil))))
    (pss_cons (ps_set (i := 3) sc__law_pairs_right.nd rfl (Or.inl rfl) (pe_callTy (T := "tuple") call_tuple_of (by rfl) m_tuple (by decide +kernel) (pa_cons (pe_callB (id := "sorted") (Sd.cr_sortT (room hr)) (by rfl) m_sorted (by decide +kernel) (pa_cons (pv 3) pa_nil)) pa_nil)))
    (pss_cons (ps_set (i := 4) sc__law_pairs_right.nd rfl (Or.inl rfl) (pe_callTy (T := "tuple") call_tuple_of (by rfl) m_tuple (by decide +kernel) (pa_cons (pe_callB (id := "sorted") (Sd.cr_sortT (room hr)) (by rfl) m_sorted (by decide +kernel) (pa_cons (pv 4) pa_nil)) pa_nil)))
    (pss_cons (ps_set (i := 5) sc__law_pairs_right.nd rfl (Or.inl rfl) (pe_cal C__law_cut (hr.mono (by decide)) (pa_cons (pv 3) (pa_cons (pv 4) (pa_cons (pv 2) pa_nil)))))
    (pss_cons (ps_set (i := 6) sc__law_pairs_right.nd rfl (Or.inl rfl) (pe_cal C_resolvent (hr.mono (by decide)) (pa_cons (pv 3) (pa_cons (pv 4) (pa_cons (pv 2) pa_nil)))))
    (pss_cons (ps_if (pt_cmpR op_isN (pv 5) pe_non (nomark _))
      (pss_one (ps_ret (pe_cmpR op_isN (pv 6) pe_non (nomark _))))
      pss_nil)
    (pss_one (ps_ret (pe_and (pe_callB (id := "isinstance") call_isi (by rfl) m_isinstance (by decide +kernel) (pa_cons (pv 6) (pa_cons (pe_bltn (v := .ty "tuple") (by rfl) m_tuple (by decide +kernel) rfl) pa_nil))) (pe_one (pe_cmpR (op_eqD hr.units) (pv 6) (pv 5) (nomark _))))))))))))))), ?_⟩
    walk_at "rd"
    refine ⟨na, _, rfl, .inr hna, ?_⟩
    walk_at "rd"
    refine ite2 (fun _ => ?_) (fun h6 => ?_)
    · walk_at "rd"
      exact q H (Bx.Same.but (Same.refl H)) hA
    have n0 : 0 < ns.length := by
      rcases Nat.eq_zero_or_pos ns.length with z | z
      · exact absurd (show decide (V.int ((ns.map V.str).length : Nat) = V.int 0) = true by rw [List.length_map, z]; rfl) h6
      · exact z
    walk_at "rd"
    refine ⟨na, _, rfl, .inr hna, ?_⟩
    refine draw_of hA ⟨by rw [List.length_map]; omega, by rw [List.length_map]; omega⟩ fun r H1 r0 r1 s1 hA1 => ?_
    rw [List.length_map] at r1
    obtain ⟨m, rfl⟩ := Int.eq_ofNat_of_zero_le r0
    have hm : m < ns.length := by omega
    have hna1 := sqt_but hA s1 hna
    refine ⟨_, _, _, _, rfl, rfl, hna1, atI_nat (by rw [List.getElem?_map, List.getElem?_eq_getElem hm]; rfl), ?_⟩
    have hn : ns[m] ∈ ns := List.getElem_mem hm
    generalize ns[m] = n at hn ⊢
    have on := (tx n hn).ok
    walk_at "rd"
    -- the clause with the sign 1
    show spClause K _ _ _ _
    unfold spClause
    refine ⟨src, na, ns, rfl, hA1, hna1, asc, nl, fun v c H2 sa1 hAx1 dv vv => ?_⟩
    obtain ⟨p, xs, rfl, hp, ha⟩ := dp_tup dv
    have xl : xs.length = c.length := by rw [da_len ha, List.length_map]
    refine ⟨p, rfl, ⟨_, hp⟩, fun D hD => ?_⟩
    refine lc_it walk_tup (fun i H' => Same H2 H' ∧ ∃ us, H' D = some (.lst us) ∧ DpAll K H' us (((c.take i).filter fun l => decide (l.1 ≠ n)).map litD)) ⟨same_new hD, [], upd_same, .nil⟩ (fun i H' _ h => Bx.Same.tup h.1 hp) ?_ ?_
    · rintro i v H3 H4 hi ⟨s3, us, hM, hus⟩ ⟨rfl, hx⟩
      obtain ⟨l, hl, dl⟩ := da_atM ha hx
      have dl4 := dp_same s3 dl
      obtain ⟨b, rfl, hb⟩ := lit_dp dl4
      refine ⟨rfl, ?_⟩
      walk_at "rd"
      refine ⟨_, _, _, _, rfl, rfl, hb, atI_nat (j := 0) rfl, ?_⟩
      walk_at "rd"
      rw [ne_name]
      refine ite2 (fun h6 => ?_) (fun h6 => ?_)
      · walk_at "rd"
        have lc := (vc_ok tx nl vv).2
        have ul : us.length ≤ 20 := by
          rw [da_len hus, List.length_map]
          exact Nat.le_trans (Nat.le_trans (List.length_filter_le _ _) (List.length_take_le' i c)) lc
        refine ⟨us, hM, szl (by omega), same_at hD s3, us ++ [.ref b], upd_same, ?_⟩
        rw [take_filterA hl, List.filter_cons, if_pos h6, List.filter_nil, List.map_append]
        exact da_app (da_tk (tk_lst hM) _ _ (tup_lits _) hus) (da_one (dp_tk (tk_lst hM) _ _ rfl dl4))
      · rw [take_filterA hl, List.filter_cons, if_neg h6, List.filter_nil, List.append_nil]
        exact ⟨s3, us, hM, hus⟩
    rintro H3 ⟨s3, us, hM, hus⟩
    rw [xl, List.take_length] at hus
    have half1 := half_of vv hn (k := 1) (by decide)
    have us20 : us.length ≤ 20 := by
      rw [da_len hus, List.length_map]
      exact Nat.le_trans (List.length_filter_le _ _) (vc_ok tx nl vv).2
    have lf1 : (c.filter fun l => decide (l.1 ≠ n)).length ≤ 20 := Nat.le_trans (List.length_filter_le _ _) (vc_ok tx nl vv).2
    generalize (c.filter fun l => decide (l.1 ≠ n)) = f1 at hus half1 lf1
    walk_at "rd"
    refine ⟨sz (by show 2 ≤ 100000; decide), fun T nT => ?_⟩
    have sT := same_new nT (o := .tup [.str n, .int 1])
    have hT := upd_same (H := H3) (a := T) (o := .tup [.str n, .int 1])
    generalize upd H3 T (.tup [.str n, .int 1]) = Hc at sT hT ⊢
    refine ⟨sz (by show 1 ≤ 100000; decide), fun M nM => ?_⟩
    have sM := same_new nM (o := .lst [.ref T])
    have hMM := upd_same (H := Hc) (a := M) (o := .lst [.ref T])
    have hT2 := sM _ _ hT
    generalize upd Hc M (.lst [.ref T]) = Hd at sM hMM hT2 ⊢
    have sTM := sT.trans sM
    refine ⟨D, M, us, [.ref T], rfl, rfl, sTM _ _ hM, hMM, sz (by show us.length + 1 ≤ 100000; omega), fun L1 nL1 => ?_⟩
    have sL := same_new nL1 (o := .lst (us ++ [.ref T]))
    have hL1 := upd_same (H := Hd) (a := L1) (o := .lst (us ++ [.ref T]))
    have dL1 : DpAll K (upd Hd L1 (.lst (us ++ [.ref T]))) (us ++ [.ref T]) ((f1 ++ [(n, 1)]).map litD) := by
      rw [List.map_append]
      exact da_app (dpAll_same (sTM.trans sL) hus) (da_one (dp_lit (l := (n, 1)) (sqt (sL _ _ hT2))))
    have sx1 : SameBut src H1 (upd Hd L1 (.lst (us ++ [.ref T]))) := sa1.trans (Bx.Same.but (s3.trans (sTM.trans sL)))
    have hB1 : Src (upd Hd L1 (.lst (us ++ [.ref T]))) src := src_same hAx1 (s3.trans (sTM.trans sL))
    have nLs1 : src ≠ L1 := src_ne (src_same hAx1 (s3.trans sTM)) nL1
    generalize upd Hd L1 (.lst (us ++ [.ref T])) = H4 at hL1 dL1 sx1 hB1 ⊢
    generalize us ++ [V.ref T] = ws1 at hL1 dL1
    clear hT2 hMM hT sT sM sTM sL nL1
    walk_at "rd"
    have hna4 := sqt_but hA1 sx1 hna1
    -- the clause with the sign 0
    refine ⟨src, na, ns, rfl, hB1, hna4, asc, nl, fun v c H5 sa2 hAx2 dv vv => ?_⟩
    obtain ⟨p, xs, rfl, hp, ha⟩ := dp_tup dv
    have xl : xs.length = c.length := by rw [da_len ha, List.length_map]
    refine ⟨p, rfl, ⟨_, hp⟩, fun D hD => ?_⟩
    refine lc_it walk_tup (fun i H' => Same H5 H' ∧ ∃ us, H' D = some (.lst us) ∧ DpAll K H' us (((c.take i).filter fun l => decide (l.1 ≠ n)).map litD)) ⟨same_new hD, [], upd_same, .nil⟩ (fun i H' _ h => Bx.Same.tup h.1 hp) ?_ ?_
    · rintro i v H3 H4 hi ⟨s3, us, hM, hus⟩ ⟨rfl, hx⟩
      obtain ⟨l, hl, dl⟩ := da_atM ha hx
      have dl4 := dp_same s3 dl
      obtain ⟨b, rfl, hb⟩ := lit_dp dl4
      refine ⟨rfl, ?_⟩
      walk_at "rd"
      refine ⟨_, _, _, _, rfl, rfl, hb, atI_nat (j := 0) rfl, ?_⟩
      walk_at "rd"
      rw [ne_name]
      refine ite2 (fun h6 => ?_) (fun h6 => ?_)
      · walk_at "rd"
        have lc := (vc_ok tx nl vv).2
        have ul : us.length ≤ 20 := by
          rw [da_len hus, List.length_map]
          exact Nat.le_trans (Nat.le_trans (List.length_filter_le _ _) (List.length_take_le' i c)) lc
        refine ⟨us, hM, szl (by omega), same_at hD s3, us ++ [.ref b], upd_same, ?_⟩
        rw [take_filterA hl, List.filter_cons, if_pos h6, List.filter_nil, List.map_append]
        exact da_app (da_tk (tk_lst hM) _ _ (tup_lits _) hus) (da_one (dp_tk (tk_lst hM) _ _ rfl dl4))
      · rw [take_filterA hl, List.filter_cons, if_neg h6, List.filter_nil, List.append_nil]
        exact ⟨s3, us, hM, hus⟩
    rintro H6 ⟨s3, us, hM, hus⟩
    rw [xl, List.take_length] at hus
    have half2 := half_of vv hn (k := 0) (by decide)
    have us20 : us.length ≤ 20 := by
      rw [da_len hus, List.length_map]
      exact Nat.le_trans (List.length_filter_le _ _) (vc_ok tx nl vv).2
    have lf2 : (c.filter fun l => decide (l.1 ≠ n)).length ≤ 20 := Nat.le_trans (List.length_filter_le _ _) (vc_ok tx nl vv).2
    generalize (c.filter fun l => decide (l.1 ≠ n)) = f2 at hus half2 lf2
    walk_at "rd"
    refine ⟨sz (by show 2 ≤ 100000; decide), fun T nT => ?_⟩
    have sT := same_new nT (o := .tup [.str n, .int 0])
    have hT := upd_same (H := H6) (a := T) (o := .tup [.str n, .int 0])
    generalize upd H6 T (.tup [.str n, .int 0]) = Hc at sT hT ⊢
    refine ⟨sz (by show 1 ≤ 100000; decide), fun M nM => ?_⟩
    have sM := same_new nM (o := .lst [.ref T])
    have hMM := upd_same (H := Hc) (a := M) (o := .lst [.ref T])
    have hT2 := sM _ _ hT
    generalize upd Hc M (.lst [.ref T]) = Hd at sM hMM hT2 ⊢
    have sTM := sT.trans sM
    refine ⟨D, M, us, [.ref T], rfl, rfl, sTM _ _ hM, hMM, sz (by show us.length + 1 ≤ 100000; omega), fun L2 nL2 => ?_⟩
    have sL := same_new nL2 (o := .lst (us ++ [.ref T]))
    have hL2 := upd_same (H := Hd) (a := L2) (o := .lst (us ++ [.ref T]))
    have dL2 : DpAll K (upd Hd L2 (.lst (us ++ [.ref T]))) (us ++ [.ref T]) ((f2 ++ [(n, 0)]).map litD) := by
      rw [List.map_append]
      exact da_app (dpAll_same (sTM.trans sL) hus) (da_one (dp_lit (l := (n, 0)) (sqt (sL _ _ hT2))))
    have sx2 : SameBut src H4 (upd Hd L2 (.lst (us ++ [.ref T]))) := sa2.trans (Bx.Same.but (s3.trans (sTM.trans sL)))
    have hB2 : Src (upd Hd L2 (.lst (us ++ [.ref T]))) src := src_same hAx2 (s3.trans (sTM.trans sL))
    have nLs2 : src ≠ L2 := src_ne (src_same hAx2 (s3.trans sTM)) nL2
    generalize upd Hd L2 (.lst (us ++ [.ref T])) = H7 at hL2 dL2 sx2 hB2 ⊢
    generalize us ++ [V.ref T] = ws2 at hL2 dL2
    clear hT2 hMM hT sT sM sTM sL nL2
    walk_at "rd"
    have hL17 := sx2 _ _ nLs1.symm hL1
    have dL17 := da_tk (tk_but hB1 sx2) _ _ (tup_lits _) dL1
    refine ⟨L1, ws1, List.map litD (List.append f1 [((n, 1) : Lit)]), rfl, sq hL17, dL17, all_alike alike_lit _, fun e he => (by obtain ⟨l, _, rfl⟩ := List.mem_map.mp he; exact ⟨_, rfl⟩), by rw [List.length_map]; show (f1 ++ [((n, 1) : Lit)]).length ≤ _; rw [List.length_append]; exact sz (by show f1.length + 1 ≤ 100000; omega), fun e he => (by obtain ⟨l, _, rfl⟩ := List.mem_map.mp he; show 1 ≤ 60; decide), fun zs R nR dR => ?_⟩
    obtain ⟨c1, ec1, v1, m1⟩ := half1.2
    have sR := same_new nR (o := .lst zs)
    have hR := upd_same (H := H7) (a := R) (o := .lst zs)
    have dR2 := dpAll_same sR dR
    have dR2 := ec1 ▸ dR2
    generalize upd H7 R (.lst zs) = Hr at sR hR dR2 ⊢
    walk_at "rd"
    refine ⟨R, _, rfl, .inl ⟨sq hR, fun t1 nt => ?_⟩⟩
    have st := same_new nt (o := .tup zs)
    have d1 : Dp K (upd Hr t1 (.tup zs)) (.ref t1) (clD c1) := .tup (sqt upd_same) (dpAll_same st dR2)
    have sy1 : Same H7 (upd Hr t1 (.tup zs)) := sR.trans st
    generalize upd Hr t1 (.tup zs) = H8 at d1 sy1 ⊢
    walk_at "rd"
    have hL28 := sy1 _ _ hL2
    have dL28 := dpAll_same sy1 dL2
    refine ⟨L2, ws2, List.map litD (List.append f2 [((n, 0) : Lit)]), rfl, sq hL28, dL28, all_alike alike_lit _, fun e he => (by obtain ⟨l, _, rfl⟩ := List.mem_map.mp he; exact ⟨_, rfl⟩), by rw [List.length_map]; show (f2 ++ [((n, 0) : Lit)]).length ≤ _; rw [List.length_append]; exact sz (by show f2.length + 1 ≤ 100000; omega), fun e he => (by obtain ⟨l, _, rfl⟩ := List.mem_map.mp he; show 1 ≤ 60; decide), fun zs R nR dR => ?_⟩
    obtain ⟨c2, ec2, v2, m2⟩ := half2.2
    have sR := same_new nR (o := .lst zs)
    have hR := upd_same (H := H8) (a := R) (o := .lst zs)
    have dR2 := dpAll_same sR dR
    have dR2 := ec2 ▸ dR2
    generalize upd H8 R (.lst zs) = Hr at sR hR dR2 ⊢
    walk_at "rd"
    refine ⟨R, _, rfl, .inl ⟨sq hR, fun t2 nt => ?_⟩⟩
    have st := same_new nt (o := .tup zs)
    have d2 : Dp K (upd Hr t2 (.tup zs)) (.ref t2) (clD c2) := .tup (sqt upd_same) (dpAll_same st dR2)
    have sy2 : Same H8 (upd Hr t2 (.tup zs)) := sR.trans st
    generalize upd Hr t2 (.tup zs) = H9 at d2 sy2 ⊢
    walk_at "rd"
    have d19 := dp_same sy2 d1
    show spCut K _ _ _ _
    unfold spCut
    refine ⟨t1, t2, c1, c2, n, ns, rfl, d19, d2, v1, v2, tx, nl, on, fun u o H10 s10 hcut hov => ?_⟩
    have hres : IsRes c1 c2 n o := by
      unfold CutR at hcut
      rw [if_pos ⟨m1, m2⟩] at hcut
      exact hcut
    walk_at "rd"
    show spRes K _ _ _ _
    unfold spRes
    refine ⟨t1, t2, c1, c2, n, rfl, dp_same s10 d19, dp_same s10 d2, (vc_ok tx nl v1).1, (vc_ok tx nl v2).1, on, (vc_ok tx nl v1).2, (vc_ok tx nl v2).2, fun u2 o2 H11 s11 hres2 hov2 => ?_⟩
    have eo := res_one hres hres2
    subst eo
    have fin := q H11 (s1.trans (sx1.trans (sx2.trans (Bx.Same.but (sy1.trans (sy2.trans (s10.trans s11))))))) (src_same hB2 (sy1.trans (sy2.trans (s10.trans s11))))
    walk_at "rd"
    cases o with
    | none =>
      have e1 : u = .non := hov
      have e2 : u2 = .non := hov2
      subst e1
      subst e2
      refine ite2 (fun _ => ?_) (fun h => absurd (show decide (V.non = V.non) = true by simp) h)
      walk_at "rd"
      exact fin
    | some ls =>
      have du : Dp K H11 u (clD ls) := dp_same s11 (show Dp K H10 u (clD ls) from hov)
      have du2 : Dp K H11 u2 (clD ls) := hov2
      obtain ⟨b1, z1, rfl, hb1, _⟩ := dp_tup du
      obtain ⟨b2, z2, rfl, hb2, _⟩ := dp_tup du2
      refine ite2 (fun h => absurd h (by simp)) (fun _ => ?_)
      walk_at "rd"
      refine ⟨_, _, _, _, true, rfl, .ty "tuple", ty_tup hb2, kit_ty (by decide +kernel), ?_⟩
      walk_at "rd"
      have ok := (vc_ok tx nl (res_vc v1 v2 hres)).1
      refine ⟨clD ls, clD ls, du2, du, sh_cl ok, sh_cl ok, ?_⟩
      rw [eqv_cl, decide_eq_true rfl]
      exact fin
end
end K08
namespace K08
local macro_rules | `(tactic| walk_at "rd") => `(tactic| repeat (first | refine ⟨rfl, ?_⟩ | refine ⟨_, rfl, ?_⟩ | refine ⟨_, _, rfl, rfl, ?_⟩ | refine ⟨⟨_, rfl⟩, ?_⟩))
open PySem PySem.Spec PyProof.Rows L2 Bx TL Dx Zx Ow Sup NdefX Px
/-- a line with small places -/
def Sm : Ln → Prop
  | .giv i => i.natAbs ≤ 20
  | .cut i j n => i.natAbs ≤ 20 ∧ j.natAbs ≤ 20 ∧ PyData.strOk n = true
theorem Sm.ok : ∀ {x : Ln}, Sm x → OkLn x
  | .giv i, h => by
    have h' : i.natAbs ≤ 20 := h
    show i.natAbs < 1000000
    omega
  | .cut i j n, h => by
    have h' : i.natAbs ≤ 20 ∧ j.natAbs ≤ 20 ∧ PyData.strOk n = true := h
    exact ⟨by omega, by omega, h'.2.2⟩
theorem tup_lns : ∀ ls : List Ln, tupAll (ls.map lnD) = true
  | [] => rfl
  | x :: ls => by
    show (tupD (lnD x) && tupAll (ls.map lnD)) = true
    rw [tup_lns ls]
    cases x <;> rfl
theorem tup_ln (x : Ln) : tupD (lnD x) = true := by cases x <;> rfl
section
variable {P : Program} {w : World} {K : PySem.W.Frag} {mg : Str → Option Value} {base : Heap}
theorem dp_giv {H : Hp} {t : Addr} {i : Int} (h : SqT K H t [.str (Str.ofString "given"), .int i]) : Dp K H (.ref t) (lnD (.giv i)) := .tup h (.cons (.str _) (da_one (.int _)))
theorem dp_cut {H : Hp} {t : Addr} {i j : Int} {n : Str} (h : SqT K H t [.str (Str.ofString "cut"), .int i, .int j, .str n]) : Dp K H (.ref t) (lnD (.cut i j n)) := .tup h (.cons (.str _) (.cons (.int _) (.cons (.int _) (da_one (.str _)))))
@[irreducible] def spSteps (K : PySem.W.Frag) : Sp := fun vs H Q _ => ∃ (s na p : Addr) (xs : List V) (ns : List Str) (cs : List Cl), vs = [.ref s, .ref na, .ref p] ∧ Src H s ∧ SqT K H na (ns.map V.str) ∧ Asc ns ∧ (∀ z ∈ ns, Tx 17 z) ∧ ns.length ≤ 20 ∧ p ≠ s ∧ H p = some (.lst xs) ∧ DpAll K H xs (cs.map clD) ∧ (∀ c ∈ cs, Vc ns c) ∧ cs.length ≤ 8 ∧
  ∀ (r : Addr) (zs : List V) (lns : List Ln) (H' : Hp), SameBut s H H' → Src H' s → H r = none → H' r = some (.lst zs) → DpAll K H' zs (lns.map lnD) → (∀ x ∈ lns, Sm x) → lns.length ≤ 9 → Q (.ref r) H'
/-- what the cuts' lists hold -/
def Ct (K : PySem.W.Frag) (H H' : Hp) (v : V) (m : Nat) : Prop := Same H H' ∧ ∃ (C : Addr) (us : List V) (ks : List Ln), v = .ref C ∧ H C = none ∧ H' C = some (.lst us) ∧ DpAll K H' us (ks.map lnD) ∧ (∀ x ∈ ks, Sm x) ∧ ks.length ≤ m
set_option maxHeartbeats 4000000 in
theorem ok_steps {f : Addr} {fd : FuncData} (F : Fun K "_law_steps" "_law_steps" s__law_steps f fd) (m_range : mg "range" = none) (m_len : mg "len" = none) (m_max : mg "max" = none) (C__law_draw : CDraw P w K mg base) (C__law_cut : Cal P w K mg base "_law_cut" 1 ["_law_first", "_law_second", "_law_name"] (spCut K)) (C__law_step : Cal P w K mg base "_law_step" 2 ["_law_clauses_here", "_law_found", "_law_step_here"] (spStep K)) : FnOk P w K mg base CX0 3 f fd ["_law_source_here", "_law_names_here", "_law_clauses_here"] (spSteps K) := by
  refine F.ok sc__law_steps (fun vs H Q E h => ?_) (fun cdv A outer s H vs Q E hr h => ?_)
  · unfold spSteps at h
    obtain ⟨s, na, p, xs, ns, cs, rfl, _⟩ := h
    rfl
  · unfold spSteps at h
    obtain ⟨src, na, p, xs, ns, cs, rfl, hA, hna, asc, tx, nl, ps, hp, hd, vc, lc, q⟩ := h
    refine ⟨_, (pss_cons (ps_set (i := 3) sc__law_steps.nd rfl (Or.inl rfl) (pe_lst pa_nil))
    (pss_cons (ps_set (i := 4) sc__law_steps.nd rfl (Or.inr rfl) (pe_lst pa_nil))
    (pss_cons (ps_for PassesOwn.never rfl (pi_range1 (by rfl) m_range (pa_cons (pe_cal C__law_draw (hr.mono (by decide)) (pa_cons (pv 0) (pa_cons pe_int pa_nil))) pa_nil)) (pg_name (i := 5) sc__law_steps.nd rfl (Or.inl rfl))
      (pss_cons (ps_set (i := 6) sc__law_steps.nd rfl (Or.inl rfl) (pe_lst pa_nil))
    (pss_cons (ps_for PassesOwn.never rfl (pi_range1 (by rfl) m_range (pa_cons (pe_callB call_len_seq (by rfl) m_len PySem.boot_len (pa_cons (pv 4) pa_nil)) pa_nil)) (pg_name (i := 7) sc__law_steps.nd rfl (Or.inr rfl))
      (pss_one (ps_for PassesOwn.never rfl (pi_range1 (by rfl) m_range (pa_cons (pe_callB call_len_seq (by rfl) m_len PySem.boot_len (pa_cons (pv 4) pa_nil)) pa_nil)) (pg_name (i := 9) sc__law_steps.nd rfl (Or.inr rfl))
      (pss_one (ps_set (i := 6) sc__law_steps.nd rfl (Or.inl rfl) (pe_op op_cat (pv 6) (pe_lc (own := [("_law_name", 10)]) rfl sc__law_steps.nd (pi_tup (pv 1)) (blkOk_by (N := n__law_steps) (sc := defScope s__law_steps) (by decide +kernel)) (fun _ _ _ _ _ => pg_name (i := 10) sc__law_steps.nd rfl (Or.inl rfl)) (fun _ _ _ _ _ => pts_one (pt_cmpR op_notN (pe_cal C__law_cut (hr.mono (by decide)) (pa_cons (pe_ix (ix_listK (K := K) rfl) (pv 4) (pv 7) (fun _ _ => rfl)) (pa_cons (pe_ix (ix_listK (K := K) rfl) (pv 4) (pv 9) (fun _ _ => rfl)) (pa_cons (pv 10) pa_nil)))) pe_non (nomark _))) (fun _ _ _ _ _ => (pe_tup (pa_cons pe_str (pa_cons (pv 7) (pa_cons (pv 9) (pa_cons (pv 10) pa_nil)))))))))))))
    (pss_cons (ps_set (i := 8) sc__law_steps.nd rfl (Or.inl rfl) (pe_tup (pa_cons pe_str (pa_cons (pe_cal C__law_draw (hr.mono (by decide)) (pa_cons (pv 0) (pa_cons (pe_callB (call_max2 rfl) (by rfl) m_max (by decide +kernel) (pa_cons pe_int (pa_cons (pe_callB call_len_seq (by rfl) m_len PySem.boot_len (pa_cons (pv 2) pa_nil)) pa_nil))) pa_nil))) pa_nil))))
    (pss_cons (ps_if (PW.pt (pw_and (pt_cmpR op_gt (pe_callB call_len_seq (by rfl) m_len PySem.boot_len (pa_cons (pv 6) pa_nil)) pe_int (nomark _)) (pw_and1 (pt_cmpR op_gt (pe_cal C__law_draw (hr.mono (by decide)) (pa_cons (pv 0) (pa_cons pe_int pa_nil))) pe_int (nomark _)))))
      (pss_one (ps_set (i := 8) sc__law_steps.nd rfl (Or.inl rfl) (pe_ix ix_list (pv 6) (pe_cal C__law_draw (hr.mono (by decide)) (pa_cons (pv 0) (pa_cons (pe_callB call_len_seq (by rfl) m_len PySem.boot_len (pa_cons (pv 6) pa_nil)) pa_nil))) (fun _ _ => rfl))))
      pss_nil)
    (pss_one (ps_if (pt_cmpR op_notN (pe_cal C__law_step (hr.mono (by decide)) (pa_cons (pv 2) (pa_cons (pv 4) (pa_cons (pv 8) pa_nil)))) pe_non (nomark _))
      (pss_cons (ps_expr (pe_bm PySem.F.plainAttrs_list PySem.F.slot_list_append PySem.F.type_list_append mt_append (pv 3) (pa_cons (pv 8) pa_nil)))
    (pss_one (ps_expr (pe_bm PySem.F.plainAttrs_list PySem.F.slot_list_append PySem.F.type_list_append mt_append (pv 4) (pa_cons (pe_cal C__law_step (hr.mono (by decide)) (pa_cons (pv 2) (pa_cons (pv 4) (pa_cons (pv 8) pa_nil)))) pa_nil)))))
      pss_nil)))))))
    (pss_one (ps_ret (pv 3)))))), ?_⟩
    walk_at "rd"
    refine ⟨sz (by decide), fun S nS => ?_⟩
    have uS := same_new nS (o := .lst ([] : List V))
    have hS0 := upd_same (H := H) (a := S) (o := .lst ([] : List V))
    have nSs := src_ne hA nS
    generalize upd H S (.lst []) = H0 at uS hS0 ⊢
    walk_at "rd"
    refine ⟨sz (by decide), fun G nG => ?_⟩
    have nGs := src_ne (src_same hA uS) nG
    have uG := same_new nG (o := .lst ([] : List V))
    have hG0 := upd_same (H := H0) (a := G) (o := .lst ([] : List V))
    have nGH : H G = none := uS.free nG
    have SG : S ≠ G := fun e => by rw [← e, hS0] at nG; cases nG
    have uSG := uS.trans uG
    have hS1 := uG _ _ hS0
    generalize upd H0 G (.lst []) = H1 at uSG hG0 hS1 ⊢
    walk_at "rd"
    refine draw_of (lim := 9) (src_same hA uSG) (by decide) fun r H2 h0 h1 s2 hA2 => ?_
    walk_at "rd"
    refine ⟨by omega, by omega, for_it walk_range (fun k σ H' => ∃ (o5 o6 o7 o8 o9 : Option V) (zs ys : List V) (lns : List Ln) (bs : List Cl), σ = [some (.ref src), some (.ref na), some (.ref p), some (.ref S), some (.ref G), o5, o6, o7, o8, o9, none] ∧ SameBut src H H' ∧ Src H' src ∧ H' S = some (.lst zs) ∧ DpAll K H' zs (lns.map lnD) ∧ (∀ x ∈ lns, Sm x) ∧ lns.length ≤ k ∧ H' G = some (.lst ys) ∧ DpAll K H' ys (bs.map clD) ∧ (∀ c ∈ bs, Vc ns c) ∧ bs.length ≤ k)
      ⟨none, none, none, none, none, [], [], [], [], rfl, (Bx.Same.but uSG).trans s2, hA2, s2 _ _ nSs.symm hS1, .nil, (fun x hx => by cases hx), Nat.le_refl _, s2 _ _ nGs.symm hG0, .nil, (fun x hx => by cases hx), Nat.le_refl _⟩ (fun _ _ _ _ _ => trivial) ?_ ?_⟩
    · rintro k x σ H3a H3 hk ⟨o5, o6, o7, o8, o9, zs, ys, lns, bs, rfl, s3, hA3, hS, hz, okz, lz, hG, hy, vb, lb⟩ ⟨rfl, rfl⟩
      have hk9 : k < 9 := by omega
      have yl : ys.length = bs.length := by rw [da_len hy, List.length_map]
      have hna3 := sqt_but hA s3 hna
      walk_at "rd"
      refine ⟨sz (by decide), fun C0 nC0 => ?_⟩
      have uC := same_new nC0 (o := .lst ([] : List V))
      have hC0 := upd_same (H := H3) (a := C0) (o := .lst ([] : List V))
      generalize upd H3 C0 (.lst []) = H4 at uC hC0 ⊢
      walk_at "rd"
      refine ⟨G, _, rfl, .inl (sq (uC _ _ hG)), ?_⟩
      walk_at "rd"
      refine ⟨by omega, by omega, for_it walk_range (fun i σ H' => ∃ (o7 o9 : Option V) (v : V), σ = [some (.ref src), some (.ref na), some (.ref p), some (.ref S), some (.ref G), some (.int (0 + (k : Nat))), some v, o7, o8, o9, none] ∧ Ct K H3 H' v (180 * i))
        ⟨o7, o9, .ref C0, rfl, uC, C0, [], [], rfl, nC0, hC0, .nil, (fun x hx => by cases hx), Nat.le_refl _⟩ (fun _ _ _ _ _ => trivial) ?_ ?_⟩
      · rintro i x σ H5a H5 hi ⟨o7, o9, v, rfl, ct⟩ ⟨rfl, rfl⟩
        have hi9 : i < ys.length := by omega
        walk_at "rd"
        refine ⟨G, _, rfl, .inl (sq (ct.1 _ _ hG)), ?_⟩
        walk_at "rd"
        refine ⟨by omega, by omega, for_it walk_range (fun j σ H' => ∃ (o9 : Option V) (v : V), σ = [some (.ref src), some (.ref na), some (.ref p), some (.ref S), some (.ref G), some (.int (0 + (k : Nat))), some v, some (.int (0 + (i : Nat))), o8, o9, none] ∧ Ct K H3 H' v (180 * i + 20 * j))
          ⟨o9, v, rfl, ct⟩ (fun _ _ _ _ _ => trivial) ?_ ?_⟩
        · rintro j x σ H6a H6 hj ⟨o9, v, rfl, u6, C, us, ks, rfl, nC, hC, hus, oku, lu⟩ ⟨rfl, rfl⟩
          walk_at "rd"
          have hj9 : j < ys.length := by omega
          have evi := List.getElem?_eq_getElem hi9
          have evj := List.getElem?_eq_getElem hj9
          obtain ⟨ci, hci, dci⟩ := da_atM hy evi
          obtain ⟨cj, hcj, dcj⟩ := da_atM hy evj
          have vi := vb ci (List.mem_of_getElem? hci)
          have vj := vb cj (List.mem_of_getElem? hcj)
          generalize ys[i] = yi at evi dci
          generalize ys[j] = yj at evj dcj
          obtain ⟨bi, zi, rfl, _⟩ := dp_tup dci
          obtain ⟨bj, zj, rfl, _⟩ := dp_tup dcj
          have okp : ∀ z ∈ ns, Sm (.cut (0 + (i : Nat)) (0 + (j : Nat)) z) := fun z hz => ⟨by omega, by omega, (tx z hz).ok⟩
          refine ⟨⟨_, Bx.Same.tup u6 hna3⟩, fun D hD => ?_⟩
          refine lc_it walk_tup (fun m H' => Same H6 H' ∧ ∃ (ws : List V) (ls : List Ln), H' D = some (.lst ws) ∧ DpAll K H' ws (ls.map lnD) ∧ (∀ x ∈ ls, Sm x) ∧ ls.length ≤ m) ⟨same_new hD, [], [], upd_same, .nil, (fun x hx => by cases hx), Nat.le_refl _⟩ (fun m H' _ h => Bx.Same.tup (u6.trans h.1) hna3) ?_ ?_
          · rintro m y H7 H8 hm ⟨u7, ws, ls, hW, hws, okw, lw⟩ ⟨rfl, hx⟩
            obtain ⟨n, hn, rfl⟩ := at_map hx
            rw [List.length_map] at hm
            have nm := List.mem_of_getElem? hn
            refine ⟨rfl, ?_⟩
            walk_at "rd"
            have u67 := u6.trans u7
            refine ⟨_, _, _, _, rfl, rfl, sq (u67 _ _ hG), (by rw [Int.zero_add]; exact atI_nat evi), ?_⟩
            walk_at "rd"
            refine ⟨_, _, _, _, rfl, rfl, sq (u67 _ _ hG), (by rw [Int.zero_add]; exact atI_nat evj), ?_⟩
            walk_at "rd"
            show spCut K _ _ _ _
            unfold spCut
            refine ⟨bi, bj, ci, cj, n, ns, rfl, dp_same u67 dci, dp_same u67 dcj, vi, vj, tx, nl, (tx n nm).ok, fun v o H9 s9 _ _ => ?_⟩
            have hW9 := s9 _ _ hW
            have hws9 := dpAll_same s9 hws
            have u79 := u7.trans s9
            walk_at "rd"
            refine ite2 (fun _ => ?_) (fun _ => ?_)
            · walk_at "rd"
              refine ⟨sz (by show 4 ≤ 100000; decide), fun T nT => ?_⟩
              have sT := same_new nT (o := .tup [.str (Str.ofString "cut"), .int (0 + (i : Nat)), .int (0 + (j : Nat)), .str n])
              have hT := upd_same (H := H9) (a := T) (o := .tup [.str (Str.ofString "cut"), .int (0 + (i : Nat)), .int (0 + (j : Nat)), .str n])
              generalize upd H9 T (.tup [.str (Str.ofString "cut"), .int (0 + (i : Nat)), .int (0 + (j : Nat)), .str n]) = H10 at sT hT ⊢
              have hW10 := sT _ _ hW9
              have wl : ws.length = ls.length := by rw [da_len hws, List.length_map]
              have tk := tk_lst (K := K) (o := .lst (ws ++ [.ref T])) hW10
              refine ⟨ws, hW10, szl (by omega), same_at hD (u79.trans sT), ws ++ [.ref T], ls ++ [.cut (0 + (i : Nat)) (0 + (j : Nat)) n], upd_same, ?_, fun x hx => ?_, by rw [List.length_append]; show ls.length + 1 ≤ m + 1; omega⟩
              · rw [List.map_append]
                exact da_app (da_tk tk _ _ (tup_lns _) (dpAll_same sT hws9)) (da_one (dp_tk tk _ _ rfl (dp_cut (sqt hT))))
              · rcases List.mem_append.mp hx with h | h
                · exact okw x h
                · rw [List.mem_singleton.mp h]
                  exact okp n nm
            · exact ⟨u79, ws, ls, hW9, hws9, okw, by omega⟩
          rintro H7 ⟨u7, ws, ls, hW, hws, okw, lw⟩
          rw [List.length_map] at lw
          have wl : ws.length = ls.length := by rw [da_len hws, List.length_map]
          have ul : us.length = ks.length := by rw [da_len hus, List.length_map]
          have hC7 := u7 _ _ hC
          refine ⟨C, D, us, ws, rfl, rfl, hC7, hW, sz (by omega), fun E2 nE => ?_⟩
          have sE := same_new nE (o := .lst (us ++ ws))
          refine ⟨_, .ref E2, rfl, u6.trans (u7.trans sE), E2, us ++ ws, ks ++ ls, rfl, (u6.trans u7).free nE, upd_same, ?_, fun x hx => (List.mem_append.mp hx).elim (oku x) (okw x), by rw [List.length_append]; omega⟩
          rw [List.map_append]
          exact da_app (dpAll_same (u7.trans sE) hus) (dpAll_same sE hws)
        · rintro σ H6 ⟨o9, v, rfl, ct⟩
          obtain ⟨a, C, us, ks, b1, b2, b3, b4, b5, b6⟩ := ct
          walk_at "rd"
          exact ⟨_, _, v, rfl, a, C, us, ks, b1, b2, b3, b4, b5, by omega⟩
      · rintro σ H5 ⟨o7, o9, v, rfl, u5, C, us, ks, rfl, nC, hC, hus, oku, lu⟩
        walk_at "rd"
        have hA5 := src_same hA3 u5
        have hpp : ∀ {H' : Hp}, SameBut src H H' → H' p = some (.lst xs) := fun s => s _ _ ps hp
        have s5 := s3.trans (Bx.Same.but u5)
        refine ⟨p, _, rfl, .inl (sq (hpp s5)), ?_⟩
        walk_at "rd"
        have xl : xs.length = cs.length := by rw [da_len hd, List.length_map]
        refine ⟨1, _, rfl, ?_⟩
        refine draw_of hA5 ⟨by split <;> omega, by split <;> omega⟩ fun r6 H6 h60 h61 s6 hA6 => ?_
        have h62 : r6 ≤ 8 := by
          split at h61 <;> omega
        walk_at "rd"
        refine ⟨sz (by show 2 ≤ 100000; decide), fun T nT => ?_⟩
        have sT := same_new nT (o := .tup [.str (Str.ofString "given"), .int r6])
        have hT := upd_same (H := H6) (a := T) (o := .tup [.str (Str.ofString "given"), .int r6])
        have hA7 := src_same hA6 sT
        have s57 := s6.trans (Bx.Same.but sT)
        generalize upd H6 T (.tup [.str (Str.ofString "given"), .int r6]) = H7 at sT hT hA7 s57 ⊢
        have nCs := src_ne hA3 nC
        have ul : us.length = ks.length := by rw [da_len hus, List.length_map]
        dsimp only [gName]
        refine st_gi (i := 8) (fun v H' => SameBut src H5 H' ∧ Src H' src ∧ ∃ ln, Dp K H' v (lnD ln) ∧ Sm ln) (fun D' hD' => ?_) ?_
        · have keep := hD' (.ref T) H7 ⟨s57, hA7, .giv r6, dp_giv (sqt hT), by show r6.natAbs ≤ 20; omega⟩
          have hC7 := s57 _ _ nCs.symm hC
          walk_at "rd"
          refine ⟨C, _, rfl, .inl (sq hC7), ?_⟩
          walk_at "rd"
          refine ite2 (fun h6 => ?_) (fun h6 => ?_)
          · have h8 : 0 < us.length := by
              have z1 : (0 : Int) < (us.length : Nat) := of_decide_eq_true h6
              omega
            walk_at "rd"
            refine draw_of (lim := 3) hA7 (by decide) fun r8 H8 _ _ s8 hA8 => ?_
            have s58 := s57.trans s8
            have hC8 := s58 _ _ nCs.symm hC
            walk_at "rd"
            refine ite2 (fun h7 => ?_) (fun h7 => ?_)
            · walk_at "rd"
              refine ⟨C, _, rfl, .inl (sq hC8), ?_⟩
              refine draw_of hA8 ⟨by omega, by omega⟩ fun r9 H9 h90 h91 s9 hA9 => ?_
              obtain ⟨m, rfl⟩ := Int.eq_ofNat_of_zero_le h90
              have s59 := s58.trans s9
              have hm : m < us.length := by omega
              have ev := List.getElem?_eq_getElem hm
              obtain ⟨ln, hln, dln⟩ := da_atM (da_tk (tk_but hA5 s59) _ _ (tup_lns _) hus) ev
              refine ⟨_, _, _, _, rfl, rfl, sq (s59 _ _ nCs.symm hC), atI_nat ev, ?_⟩
              exact hD' _ H9 ⟨s59, hA9, ln, dln, oku ln (List.mem_of_getElem? hln)⟩
            · walk_at "rd"
              exact hD' (.ref T) H8 ⟨s58, hA8, .giv r6, dp_tk (tk_but hA7 s8) _ _ rfl (dp_giv (sqt hT)), by show r6.natAbs ≤ 20; omega⟩
          · walk_at "rd"
            exact keep
        rintro v8 H8 ⟨s58, hA8, ln, dln, okl⟩
        have s8 := s5.trans s58
        have u38 : SameBut src H3 H8 := (Bx.Same.but u5).trans s58
        have tk38 := tk_but (K := K) hA3 u38
        have hS8 := u38 _ _ nSs.symm hS
        have hG8 := u38 _ _ nGs.symm hG
        have hz8 := da_tk tk38 _ _ (tup_lns _) hz
        have hy8 := da_tk tk38 _ _ (tup_cls _) hy
        have hd8 := da_tk (tk_but hA s8) _ _ (tup_cls _) hd
        walk_at "rd"
        show spStep K _ _ _ _
        unfold spStep
        refine ⟨p, G, v8, xs, ys, ns, cs, bs, ln, rfl, sq (hpp s8), hd8, sq hG8, hy8, dln, okl.ok, vc, vb, tx, nl, by omega, by omega, fun v9 o H9 s9 hder hov => ?_⟩
        have s89 := s8.trans (Bx.Same.but s9)
        walk_at "rd"
        cases o with
        | none =>
          have e : v9 = .non := hov
          subst e
          refine ite2 (fun h => absurd h (by decide)) (fun _ => ?_)
          walk_at "rd"
          exact ⟨_, _, _, _, _, zs, ys, lns, bs, rfl, s89, src_same hA8 s9, s9 _ _ hS8, dpAll_same s9 hz8, okz, by omega, s9 _ _ hG8, dpAll_same s9 hy8, vb, by omega⟩
        | some c =>
          have dc : Dp K H9 v9 (clD c) := hov
          obtain ⟨b9, z9, rfl, _⟩ := dp_tup dc
          refine ite2 (fun _ => ?_) (fun h => absurd (show (!decide (V.ref b9 = V.non)) = true by simp) h)
          walk_at "rd"
          have hS9 := s9 _ _ hS8
          refine ⟨.inl ⟨rfl, _, sq hS9⟩, ?_⟩
          walk_at "rd"
          have zl : zs.length = lns.length := by rw [da_len hz, List.length_map]
          refine ⟨S, _, _, rfl, rfl, hS9, szl (by omega), ?_⟩
          have tkS := tk_lst (K := K) (o := .lst (zs ++ [v8])) hS9
          have hSa := upd_same (H := H9) (a := S) (o := .lst (zs ++ [v8]))
          have hGa : (upd H9 S (.lst (zs ++ [v8]))) G = some (.lst ys) := by
            rw [upd_ne (Ne.symm SG)]
            exact s9 _ _ hG8
          have sa := but_at (o := .lst (zs ++ [v8])) nS s89
          have hAa := src_upd (u := .lst (zs ++ [v8])) (src_same hA8 s9) nSs
          have hza : DpAll K (upd H9 S (.lst (zs ++ [v8]))) (zs ++ [v8]) ((lns ++ [ln]).map lnD) := by
            rw [List.map_append]
            exact da_app (da_tk tkS _ _ (tup_lns _) (dpAll_same s9 hz8)) (da_one (dp_tk tkS _ _ (tup_ln ln) (dp_same s9 dln)))
          have hya := da_tk tkS _ _ (tup_cls _) (dpAll_same s9 hy8)
          have hda := da_tk tkS _ _ (tup_cls _) (dpAll_same s9 hd8)
          have dla := dp_tk tkS _ _ (tup_ln ln) (dp_same s9 dln)
          have okz2 : ∀ x ∈ lns ++ [ln], Sm x := fun x hx => (List.mem_append.mp hx).elim (okz x) fun h => by rw [List.mem_singleton.mp h]; exact okl
          generalize upd H9 S (.lst (zs ++ [v8])) = Ha at hSa hGa sa hAa hza hya hda dla ⊢
          walk_at "rd"
          refine ⟨.inl ⟨rfl, _, sq hGa⟩, ?_⟩
          walk_at "rd"
          refine ⟨p, G, v8, xs, ys, ns, cs, bs, ln, rfl, sq (hpp sa), hda, sq hGa, hya, dla, okl.ok, vc, vb, tx, nl, by omega, by omega, fun v10 o2 H10 s10 hder2 hov2 => ?_⟩
          have eo := der_one hder hder2
          subst eo
          have dc2 : Dp K H10 v10 (clD c) := hov2
          have hG10 := s10 _ _ hGa
          have tkG := tk_lst (K := K) (o := .lst (ys ++ [v10])) hG10
          refine ⟨G, _, _, rfl, rfl, hG10, szl (by omega), ?_⟩
          refine ⟨_, _, _, _, _, zs ++ [v8], ys ++ [v10], lns ++ [ln], bs ++ [c], rfl, but_at nGH (sa.trans (Bx.Same.but s10)), src_upd (src_same hAa s10) nGs, by rw [upd_ne SG]; exact s10 _ _ hSa, da_tk tkG _ _ (tup_lns _) (dpAll_same s10 hza), okz2, by rw [List.length_append]; show lns.length + 1 ≤ k + 1; omega, upd_same, ?_, fun x hx => ?_, by rw [List.length_append]; show bs.length + 1 ≤ k + 1; omega⟩
          · rw [List.map_append]
            exact da_app (da_tk tkG _ _ (tup_cls _) (dpAll_same s10 hya)) (da_one (dp_tk tkG _ _ (tup_lits c) dc2))
          · rcases List.mem_append.mp hx with h | h
            · exact vb x h
            · rw [List.mem_singleton.mp h]
              exact der_vc vc vb hder
    · rintro σ H3 ⟨o5, o6, o7, o8, o9, zs, ys, lns, bs, rfl, s3, hA3, hS, hz, okz, lz, hG, hy, vb, lb⟩
      walk_at "rd"
      exact q S zs lns H3 s3 hA3 nS hS hz okz (by omega)
end
end K08
namespace K08
local macro_rules | `(tactic| walk_at "rd") => `(tactic| repeat (first | refine ⟨rfl, ?_⟩ | refine ⟨_, rfl, ?_⟩ | refine ⟨_, _, rfl, rfl, ?_⟩ | refine ⟨⟨_, rfl⟩, ?_⟩))
open PySem PySem.Spec PyProof.Rows L2 Bx TL Dx Zx Ow Sup NdefX Px
theorem st_any {t : TS} {D : Ends} {rest : TS} {σ : List (Option V)} {H : Hp} (R : List (Option V) → Hp → Prop) (h : ∀ D' : Ends, (∀ σ' H', R σ' H' → D'.nx σ' H') → t D' σ H) (k : ∀ σ' H', R σ' H' → rest D σ' H') : tSeq t rest D σ H :=
  h { D with nx := rest D } k
theorem da_drop {K : PySem.W.Frag} {H : Hp} : ∀ {xs : List V} {ds : List PyData}, DpAll K H xs ds → ∀ n, DpAll K H (xs.drop n) (ds.drop n)
  | _, _, h, 0 => h
  | [], [], h, _ + 1 => h
  | _ :: _, _ :: _, .cons _ h2, n + 1 => da_drop h2 n
theorem da_cut {K : PySem.W.Frag} {H : Hp} {α : Type} {f : α → PyData} {xs : List V} {ls : List α} (h : DpAll K H xs (ls.map f)) (lo hi : Option Int) : ∃ ms : List α, DpAll K H (cutV xs lo hi) (ms.map f) ∧ (∀ x ∈ ms, x ∈ ls) ∧ ms.length ≤ ls.length := by
  unfold cutV
  refine ⟨(ls.drop (HT.sIx xs.length 0 lo)).take (HT.sIx xs.length xs.length hi - HT.sIx xs.length 0 lo), ?_, fun x hx => List.mem_of_mem_drop (List.mem_of_mem_take hx), ?_⟩
  · rw [List.map_take, List.map_drop]
    exact da_take (da_drop h _) _
  · rw [List.length_take, List.length_drop]
    omega
section
variable {P : Program} {w : World} {K : PySem.W.Frag} {mg : Str → Option Value} {base : Heap}
@[irreducible] def spSpoilt (K : PySem.W.Frag) : Sp := fun vs H Q _ => ∃ (s na p S : Addr) (xs zs : List V) (ns : List Str) (lns : List Ln), vs = [.ref s, .ref na, .ref p, .ref S] ∧ Src H s ∧ SqT K H na (ns.map V.str) ∧ (∀ z ∈ ns, Tx 17 z) ∧ ns.length ≤ 20 ∧ p ≠ s ∧ H p = some (.lst xs) ∧ xs.length ≤ 8 ∧ S ≠ s ∧ H S = some (.lst zs) ∧ DpAll K H zs (lns.map lnD) ∧ (∀ x ∈ lns, Sm x) ∧ lns.length ≤ 9 ∧
  ∀ (r : Addr) (us : List V) (ms : List Ln) (H' : Hp), SameBut s H H' → Src H' s → H' r = some (.lst us) → DpAll K H' us (ms.map lnD) → (∀ x ∈ ms, OkLn x) → ms.length ≤ 100 → Q (.ref r) H'
set_option maxHeartbeats 4000000 in
theorem ok_spoilt {f : Addr} {fd : FuncData} (F : Fun K "_law_spoilt" "_law_spoilt" s__law_spoilt f fd) (m_len : mg "len" = none) (m_max : mg "max" = none) (C__law_draw : CDraw P w K mg base) : FnOk P w K mg base CX0 2 f fd ["_law_source_here", "_law_names_here", "_law_clauses_here", "_law_steps_here"] (spSpoilt K) := by
  refine F.ok sc__law_spoilt (fun vs H Q E h => ?_) (fun cdv A outer s H vs Q E hr h => ?_)
  · unfold spSpoilt at h
    obtain ⟨s, na, p, S, xs, zs, ns, lns, rfl, _⟩ := h
    rfl
  · unfold spSpoilt at h
    obtain ⟨src, na, p, S, xs, zs, ns, lns, rfl, hA, hna, tx, nl, ps, hp, lx, Ss, hS, hz, okz, lz, q⟩ := h
    have zl : zs.length = lns.length := by rw [da_len hz, List.length_map]
    refine ⟨_, (pss_cons (ps_set (i := 4) sc__law_spoilt.nd rfl (Or.inl rfl) (pe_cal C__law_draw (hr.mono (by decide)) (pa_cons (pv 0) (pa_cons (pe_callB (call_max2 rfl) (by rfl) m_max (by decide +kernel) (pa_cons pe_int (pa_cons (pe_callB call_len_seq (by rfl) m_len PySem.boot_len (pa_cons (pv 3) pa_nil)) pa_nil))) pa_nil))))
    (pss_cons (ps_if (PW.pt (pw_or (pt_cmpR op_eq (pe_callB call_len_seq (by rfl) m_len PySem.boot_len (pa_cons (pv 3) pa_nil)) pe_int (nomark _)) (pw_or1 (pt_cmpR op_eq (pe_cal C__law_draw (hr.mono (by decide)) (pa_cons (pv 0) (pa_cons pe_int pa_nil))) pe_int (nomark _)))))
      (pss_one (ps_ret (pv 3)))
      pss_nil)
    (pss_cons (ps_set (i := 5) sc__law_spoilt.nd rfl (Or.inl rfl) (pe_ix ix_list (pe_lst (pa_cons (pe_tup (pa_cons pe_str (pa_cons (pe_un un_neg pe_int) pa_nil))) (pa_cons (pe_tup (pa_cons pe_str (pa_cons (pe_callB call_len_seq (by rfl) m_len PySem.boot_len (pa_cons (pv 2) pa_nil)) pa_nil))) (pa_cons (pe_tup (pa_cons pe_str (pa_cons (pv 4) (pa_cons pe_int (pa_cons pe_str pa_nil))))) (pa_cons (pe_tup (pa_cons pe_str (pa_cons (pe_un un_neg pe_int) (pa_cons pe_int (pa_cons pe_str pa_nil))))) pa_nil))))) (pe_cal C__law_draw (hr.mono (by decide)) (pa_cons (pv 0) (pa_cons pe_int pa_nil))) (fun _ _ => rfl)))
    (pss_cons (ps_if (PW.pt (pw_and (pt_cmpR op_eq (pe_ix ix_tup (pe_ix ix_list (pv 3) (pv 4) (fun _ _ => rfl)) pe_int (fun _ _ => rfl)) pe_str (nomark _)) (pw_and1 (pt_cmpR op_gt (pe_cal C__law_draw (hr.mono (by decide)) (pa_cons (pv 0) (pa_cons pe_int pa_nil))) pe_int (nomark _)))))
      (pss_cons (ps_set (i := 6) sc__law_spoilt.nd rfl (Or.inr rfl) (pe_ix ix_list (pv 3) (pv 4) (fun _ _ => rfl)))
    (pss_cons (ps_set (i := 7) sc__law_spoilt.nd rfl (Or.inl rfl) (pe_lst (pa_cons (pe_tup (pa_cons pe_str (pa_cons (pe_ix ix_tup (pv 6) pe_int (fun _ _ => rfl)) (pa_cons (pe_ix ix_tup (pv 6) pe_int (fun _ _ => rfl)) (pa_cons (pe_ix ix_tup (pv 6) pe_int (fun _ _ => rfl)) pa_nil))))) (pa_cons (pe_tup (pa_cons pe_str (pa_cons (pe_ix ix_tup (pv 6) pe_int (fun _ _ => rfl)) (pa_cons (pv 4) (pa_cons (pe_ix ix_tup (pv 6) pe_int (fun _ _ => rfl)) pa_nil))))) (pa_cons (pe_tup (pa_cons pe_str (pa_cons (pe_op op_sub (pe_ix ix_tup (pv 6) pe_int (fun _ _ => rfl)) (pv 4)) (pa_cons (pe_ix ix_tup (pv 6) pe_int (fun _ _ => rfl)) (pa_cons (pe_ix ix_tup (pv 6) pe_int (fun _ _ => rfl)) pa_nil))))) pa_nil)))))
    (pss_cons (ps_set (i := 7) sc__law_spoilt.nd rfl (Or.inl rfl) (pe_op op_cat (pv 7) (pe_lc (own := [("_law_name", 8)]) (tt := tYes) rfl sc__law_spoilt.nd (pi_tup (pv 1)) (blkOk_by (N := n__law_spoilt) (sc := defScope s__law_spoilt) (by decide +kernel)) (fun _ _ _ _ _ => pg_name (i := 8) sc__law_spoilt.nd rfl (Or.inl rfl)) (fun _ _ _ _ _ => pts_nil) (fun _ _ _ _ _ => (pe_tup (pa_cons pe_str (pa_cons (pe_ix (ix_tupK (K := K) rfl) (pv 6) pe_int (fun _ _ => rfl)) (pa_cons (pe_ix (ix_tupK (K := K) rfl) (pv 6) pe_int (fun _ _ => rfl)) (pa_cons (pv 8) pa_nil)))))))))
    (pss_one (ps_set (i := 5) sc__law_spoilt.nd rfl (Or.inl rfl) (pe_ix ix_list (pv 7) (pe_cal C__law_draw (hr.mono (by decide)) (pa_cons (pv 0) (pa_cons (pe_callB call_len_seq (by rfl) m_len PySem.boot_len (pa_cons (pv 7) pa_nil)) pa_nil))) (fun _ _ => rfl)))))))
      pss_nil)
    (pss_one (ps_ret (pe_op op_cat (pe_op op_cat (pe_slice sl_list (pv 3) po_none (po_some (pv 4))) (pe_lst (pa_cons (pv 5) pa_nil))) (pe_slice sl_list (pv 3) (po_some (pe_op op_add (pv 4) pe_int)) po_none)))))))), ?_⟩
    walk_at "rd"
    refine ⟨S, _, rfl, .inl (sq hS), ?_⟩
    walk_at "rd"
    refine ⟨1, _, rfl, ?_⟩
    refine draw_of hA ⟨by split <;> omega, by split <;> omega⟩ fun r1 H1 h10 h11 s1 hA1 => ?_
    have stay : ∀ H', SameBut src H H' → Src H' src → Q (.ref S) H' := fun H' s' a => q S zs lns H' s' a (s' _ _ Ss hS) (da_tk (tk_but hA s') _ _ (tup_lns _) hz) (fun x hx => (okz x hx).ok) (by omega)
    have hS1 := s1 _ _ Ss hS
    walk_at "rd"
    refine ⟨S, _, rfl, .inl (sq hS1), ?_⟩
    walk_at "rd"
    refine ite2 (fun _ => ?_) (fun h6 => ?_)
    · walk_at "rd"
      exact stay H1 s1 hA1
    have n0 : 0 < zs.length := by
      rcases Nat.eq_zero_or_pos zs.length with z | z
      · exact absurd (show decide (V.int (zs.length : Nat) = V.int 0) = true by rw [z]; rfl) h6
      · exact z
    walk_at "rd"
    refine draw_of (lim := 2) hA1 (by decide) fun r2 H2 _ _ s2 hA2 => ?_
    have s02 := s1.trans s2
    walk_at "rd"
    refine ite2 (fun _ => ?_) (fun _ => ?_)
    · walk_at "rd"
      exact stay H2 s02 hA2
    have hp2 := s02 _ _ ps hp
    have hS2 := s02 _ _ Ss hS
    have hz2 := da_tk (tk_but hA s02) _ _ (tup_lns _) hz
    have h12 : r1 < zs.length := by
      split at h11 <;> omega
    obtain ⟨k, rfl⟩ := Int.eq_ofNat_of_zero_le h10
    have hk : k < zs.length := by omega
    have ok0 : PyData.strOk (Str.ofString "x") = true := by decide +kernel
    walk_at "rd"
    refine ⟨sz (by show 2 ≤ 100000; decide), fun T1 n1 => ?_⟩
    have e1 := same_new n1 (o := .tup [.str (Str.ofString "given"), .int (-1)])
    have hT1 : Dp K (upd H2 T1 (.tup [.str (Str.ofString "given"), .int (-1)])) (.ref T1) (lnD (.giv (-1))) := dp_giv (sqt upd_same)
    generalize upd H2 T1 (.tup [.str (Str.ofString "given"), .int (-1)]) = H3 at e1 hT1 ⊢
    walk_at "rd"
    refine ⟨p, _, rfl, .inl (sq (e1 _ _ hp2)), ?_⟩
    walk_at "rd"
    refine ⟨sz (by show 2 ≤ 100000; decide), fun T2 n2 => ?_⟩
    have e2 := same_new n2 (o := .tup [.str (Str.ofString "given"), .int (xs.length : Nat)])
    have hT2 : Dp K (upd H3 T2 (.tup [.str (Str.ofString "given"), .int (xs.length : Nat)])) (.ref T2) (lnD (.giv (xs.length : Nat))) := dp_giv (sqt upd_same)
    generalize upd H3 T2 (.tup [.str (Str.ofString "given"), .int (xs.length : Nat)]) = H4 at e2 hT2 ⊢
    walk_at "rd"
    refine ⟨sz (by show 4 ≤ 100000; decide), fun T3 n3 => ?_⟩
    have e3 := same_new n3 (o := .tup [.str (Str.ofString "cut"), .int (k : Nat), .int 0, .str (Str.ofString "x")])
    have hT3 : Dp K (upd H4 T3 (.tup [.str (Str.ofString "cut"), .int (k : Nat), .int 0, .str (Str.ofString "x")])) (.ref T3) (lnD (.cut (k : Nat) 0 (Str.ofString "x"))) := dp_cut (sqt upd_same)
    generalize upd H4 T3 (.tup [.str (Str.ofString "cut"), .int (k : Nat), .int 0, .str (Str.ofString "x")]) = H5 at e3 hT3 ⊢
    walk_at "rd"
    refine ⟨sz (by show 4 ≤ 100000; decide), fun T4 n4 => ?_⟩
    have e4 := same_new n4 (o := .tup [.str (Str.ofString "cut"), .int (-1), .int 0, .str (Str.ofString "x")])
    have hT4 : Dp K (upd H5 T4 (.tup [.str (Str.ofString "cut"), .int (-1), .int 0, .str (Str.ofString "x")])) (.ref T4) (lnD (.cut (-1) 0 (Str.ofString "x"))) := dp_cut (sqt upd_same)
    generalize upd H5 T4 (.tup [.str (Str.ofString "cut"), .int (-1), .int 0, .str (Str.ofString "x")]) = H6 at e4 hT4 ⊢
    walk_at "rd"
    refine ⟨sz (by show 4 ≤ 100000; decide), fun L nL => ?_⟩
    have e5 := same_new nL (o := .lst [.ref T1, .ref T2, .ref T3, .ref T4])
    have hL := upd_same (H := H6) (a := L) (o := .lst [.ref T1, .ref T2, .ref T3, .ref T4])
    have e26 := (e1.trans (e2.trans (e3.trans e4)))
    have nL2 : H2 L = none := e26.free nL
    have dL : DpAll K (upd H6 L (.lst [.ref T1, .ref T2, .ref T3, .ref T4])) [.ref T1, .ref T2, .ref T3, .ref T4] ([Ln.giv (-1), .giv (xs.length : Nat), .cut (k : Nat) 0 (Str.ofString "x"), .cut (-1) 0 (Str.ofString "x")].map lnD) :=
      .cons (dp_same (e2.trans (e3.trans (e4.trans e5))) hT1) (.cons (dp_same (e3.trans (e4.trans e5)) hT2) (.cons (dp_same (e4.trans e5) hT3) (da_one (dp_same e5 hT4))))
    have okL : ∀ x ∈ [Ln.giv (-1), .giv (xs.length : Nat), .cut (k : Nat) 0 (Str.ofString "x"), .cut (-1) 0 (Str.ofString "x")], OkLn x := by
      intro x hx
      rcases List.mem_cons.mp hx with rfl | hx
      · show (-1 : Int).natAbs < 1000000
        decide
      rcases List.mem_cons.mp hx with rfl | hx
      · show (xs.length : Int).natAbs < 1000000
        omega
      rcases List.mem_cons.mp hx with rfl | hx
      · exact ⟨by omega, by decide, ok0⟩
      rcases List.mem_cons.mp hx with rfl | hx
      · exact ⟨by decide, by decide, ok0⟩
      cases hx
    have e27 := e26.trans e5
    generalize [Ln.giv (-1), .giv (xs.length : Nat), .cut (k : Nat) 0 (Str.ofString "x"), .cut (-1) 0 (Str.ofString "x")] = lsL at dL okL
    have dL4 : DpAll K (upd H6 L (.lst [.ref T1, .ref T2, .ref T3, .ref T4])) [.ref T1, .ref T2, .ref T3, .ref T4] (lsL.map lnD) := dL
    have w4 : ([V.ref T1, .ref T2, .ref T3, .ref T4] : List V).length = 4 := rfl
    generalize [V.ref T1, .ref T2, .ref T3, .ref T4] = ws at hL dL w4 e5 e27 dL4 ⊢
    generalize upd H6 L (.lst ws) = H7 at hL dL e27 ⊢
    clear dL4 e5 hT1 hT2 hT3 hT4 e1 e2 e3 e4
    have hA7 := src_same hA2 e27
    have nLs := src_ne hA2 nL2
    walk_at "rd"
    refine draw_of (lim := 4) hA7 (by decide) fun r8 H8 h80 h81 s8 hA8 => ?_
    have s28 : SameBut src H2 H8 := (Bx.Same.but e27).trans s8
    obtain ⟨m, rfl⟩ := Int.eq_ofNat_of_zero_le h80
    have hm : m < ws.length := by omega
    have ev := List.getElem?_eq_getElem hm
    obtain ⟨l0, hl0, dl0⟩ := da_atM (da_tk (tk_but hA7 s8) _ _ (tup_lns _) dL) ev
    have ok0 := okL l0 (List.mem_of_getElem? hl0)
    walk_at "rd"
    refine ⟨_, _, _, _, rfl, rfl, sq (s8 _ _ nLs.symm hL), atI_nat ev, ?_⟩
    generalize ws[m] = v0 at ev dl0
    have hS8 := s28 _ _ Ss hS2
    have hz8 := da_tk (tk_but hA2 s28) _ _ (tup_lns _) hz2
    dsimp only [gName]
    refine st_any (fun σ' H' => ∃ (o6 o7 : Option V) (v : V) (ln : Ln), σ' = [some (.ref src), some (.ref na), some (.ref p), some (.ref S), some (.int (k : Nat)), some v, o6, o7, none] ∧ SameBut src H2 H' ∧ Src H' src ∧ Dp K H' v (lnD ln) ∧ OkLn ln) (fun D' hD' => ?_) ?_
    · have evk := List.getElem?_eq_getElem hk
      obtain ⟨lo, hlo, dlo⟩ := da_atM hz8 evk
      have oko := (okz lo (List.mem_of_getElem? hlo))
      generalize zs[k] = vo at evk dlo
      have stay8 := hD' _ H8 ⟨none, none, v0, l0, rfl, s28, hA8, dl0, ok0⟩
      walk_at "rd"
      refine ⟨_, _, _, _, rfl, rfl, sq hS8, atI_nat evk, ?_⟩
      cases lo with
      | giv i =>
        obtain ⟨t, us, rfl, ht, ha⟩ := dp_tup dlo
        cases ha with
        | cons a1 ha =>
        cases a1
        refine ⟨_, _, _, _, rfl, rfl, ht, atI_nat (j := 0) rfl, ?_⟩
        walk_at "rd"
        refine ite2 (fun h => absurd h (by decide +kernel)) (fun _ => ?_)
        walk_at "rd"
        exact stay8
      | cut i j n =>
        obtain ⟨t, us, rfl, ht, ha⟩ := dp_tup dlo
        cases ha with
        | cons a1 ha =>
        cases ha with
        | cons a2 ha =>
        cases ha with
        | cons a3 ha =>
        cases ha with
        | cons a4 ha =>
        cases ha
        cases a1
        cases a2
        cases a3
        cases a4
        have smo : i.natAbs ≤ 20 ∧ j.natAbs ≤ 20 ∧ PyData.strOk n = true := oko
        refine ⟨_, _, _, _, rfl, rfl, ht, atI_nat (j := 0) rfl, ?_⟩
        walk_at "rd"
        refine draw_of (lim := 4) hA8 (by decide) fun r9 H9 _ _ s9 hA9 => ?_
        have s29 := s28.trans s9
        have ht9 := sqt_but hA8 s9 ht
        walk_at "rd"
        refine ite2 (fun _ => ?_) (fun _ => ?_)
        · walk_at "rd"
          refine ⟨_, _, _, _, rfl, rfl, sq (s9 _ _ Ss hS8), atI_nat evk, ?_⟩
          walk_at "rd"
          refine ⟨_, _, _, _, rfl, rfl, ht9, atI_nat (j := 2) rfl, ?_⟩
          walk_at "rd"
          refine ⟨_, _, _, _, rfl, rfl, ht9, atI_nat (j := 1) rfl, ?_⟩
          walk_at "rd"
          refine ⟨_, _, _, _, rfl, rfl, ht9, atI_nat (j := 3) rfl, ?_⟩
          refine ⟨sz (by show 4 ≤ 100000; decide), fun T1 n1 => ?_⟩
          have e1 := same_new n1 (o := .tup [.str (Str.ofString "cut"), .int j, .int i, .str n])
          have hT1 : Dp K (upd H9 T1 (.tup [.str (Str.ofString "cut"), .int j, .int i, .str n])) (.ref T1) (lnD (.cut j i n)) := dp_cut (sqt upd_same)
          generalize upd H9 T1 (.tup [.str (Str.ofString "cut"), .int j, .int i, .str n]) = H10 at e1 hT1 ⊢
          have htA := Bx.Same.tup e1 ht9
          walk_at "rd"
          refine ⟨_, _, _, _, rfl, rfl, htA, atI_nat (j := 1) rfl, ?_⟩
          walk_at "rd"
          refine ⟨_, _, _, _, rfl, rfl, htA, atI_nat (j := 3) rfl, ?_⟩
          refine ⟨sz (by show 4 ≤ 100000; decide), fun T2 n2 => ?_⟩
          have e2 := same_new n2 (o := .tup [.str (Str.ofString "cut"), .int i, .int (k : Nat), .str n])
          have hT2 : Dp K (upd H10 T2 (.tup [.str (Str.ofString "cut"), .int i, .int (k : Nat), .str n])) (.ref T2) (lnD (.cut i (k : Nat) n)) := dp_cut (sqt upd_same)
          generalize upd H10 T2 (.tup [.str (Str.ofString "cut"), .int i, .int (k : Nat), .str n]) = H11 at e2 hT2 ⊢
          have htB := Bx.Same.tup e2 htA
          walk_at "rd"
          refine ⟨_, _, _, _, rfl, rfl, htB, atI_nat (j := 1) rfl, ?_⟩
          walk_at "rd"
          refine ⟨_, _, _, _, rfl, rfl, htB, atI_nat (j := 2) rfl, ?_⟩
          walk_at "rd"
          refine ⟨_, _, _, _, rfl, rfl, htB, atI_nat (j := 3) rfl, ?_⟩
          refine ⟨sz (by show 4 ≤ 100000; decide), fun T3 n3 => ?_⟩
          have e3 := same_new n3 (o := .tup [.str (Str.ofString "cut"), .int (i - (k : Nat)), .int j, .str n])
          have hT3 : Dp K (upd H11 T3 (.tup [.str (Str.ofString "cut"), .int (i - (k : Nat)), .int j, .str n])) (.ref T3) (lnD (.cut (i - (k : Nat)) j n)) := dp_cut (sqt upd_same)
          generalize upd H11 T3 (.tup [.str (Str.ofString "cut"), .int (i - (k : Nat)), .int j, .str n]) = H12 at e3 hT3 ⊢
          have htC := Bx.Same.tup e3 htB
          refine ⟨sz (by show 3 ≤ 100000; decide), fun N nN => ?_⟩
          have e4 := same_new nN (o := .lst [.ref T1, .ref T2, .ref T3])
          have hN := upd_same (H := H12) (a := N) (o := .lst [.ref T1, .ref T2, .ref T3])
          have e912 := e1.trans (e2.trans e3)
          have nN9 : H9 N = none := e912.free nN
          have dN : DpAll K (upd H12 N (.lst [.ref T1, .ref T2, .ref T3])) [.ref T1, .ref T2, .ref T3] ([Ln.cut j i n, .cut i (k : Nat) n, .cut (i - (k : Nat)) j n].map lnD) :=
            .cons (dp_same (e2.trans (e3.trans e4)) hT1) (.cons (dp_same (e3.trans e4) hT2) (da_one (dp_same e4 hT3)))
          have okN : ∀ x ∈ [Ln.cut j i n, .cut i (k : Nat) n, .cut (i - (k : Nat)) j n], OkLn x := by
            intro x hx
            rcases List.mem_cons.mp hx with rfl | hx
            · exact ⟨by omega, by omega, smo.2.2⟩
            rcases List.mem_cons.mp hx with rfl | hx
            · exact ⟨by omega, by omega, smo.2.2⟩
            rcases List.mem_cons.mp hx with rfl | hx
            · exact ⟨by omega, by omega, smo.2.2⟩
            cases hx
          have e913 := e912.trans e4
          have htD := Bx.Same.tup e4 htC
          have w3 : ([V.ref T1, .ref T2, .ref T3] : List V).length = 3 := rfl
          generalize [Ln.cut j i n, .cut i (k : Nat) n, .cut (i - (k : Nat)) j n] = lsN at dN okN
          generalize [V.ref T1, .ref T2, .ref T3] = us at hN dN w3 e4 e913 htD ⊢
          generalize upd H12 N (.lst us) = H13 at hN dN e913 htD ⊢
          clear e4 hT1 hT2 hT3 e1 e2 e3 e912 htA htB htC
          have hA13 := src_same hA9 e913
          have s2d : SameBut src H2 H13 := s29.trans (Bx.Same.but e913)
          walk_at "rd"
          have hnaD := sqt_but hA (s02.trans s2d) hna
          refine ⟨⟨_, hnaD⟩, fun D hD => ?_⟩
          refine lc_it walk_tup (fun m H' => Same H13 H' ∧ ∃ (ws : List V) (ls : List Ln), H' D = some (.lst ws) ∧ DpAll K H' ws (ls.map lnD) ∧ (∀ x ∈ ls, OkLn x) ∧ ls.length = m) ⟨same_new hD, [], [], upd_same, .nil, (fun x hx => by cases hx), rfl⟩ (fun m H' _ h => Bx.Same.tup h.1 hnaD) ?_ ?_
          · rintro m y H14 H15 hm ⟨u7, ws, ls, hW, hws, okw, lw⟩ ⟨rfl, hx⟩
            obtain ⟨z, hz, rfl⟩ := at_map hx
            rw [List.length_map] at hm
            have nm := List.mem_of_getElem? hz
            refine ⟨rfl, ?_⟩
            walk_at "rd"
            have htE := Bx.Same.tup u7 htD
            refine ⟨_, _, _, _, rfl, rfl, htE, atI_nat (j := 1) rfl, ?_⟩
            walk_at "rd"
            refine ⟨_, _, _, _, rfl, rfl, htE, atI_nat (j := 2) rfl, ?_⟩
            walk_at "rd"
            refine ⟨sz (by show 4 ≤ 100000; decide), fun T nT => ?_⟩
            have sT := same_new nT (o := .tup [.str (Str.ofString "cut"), .int i, .int j, .str z])
            have hT : Dp K (upd H15 T (.tup [.str (Str.ofString "cut"), .int i, .int j, .str z])) (.ref T) (lnD (.cut i j z)) := dp_cut (sqt upd_same)
            generalize upd H15 T (.tup [.str (Str.ofString "cut"), .int i, .int j, .str z]) = H16 at sT hT ⊢
            have hW10 := sT _ _ hW
            have wl : ws.length = ls.length := by rw [da_len hws, List.length_map]
            have tk := tk_lst (K := K) (o := .lst (ws ++ [.ref T])) hW10
            refine ⟨ws, hW10, szl (by omega), same_at hD (u7.trans sT), ws ++ [.ref T], ls ++ [.cut i j z], upd_same, ?_, fun x hx => ?_, by rw [List.length_append]; show ls.length + 1 = m + 1; omega⟩
            · rw [List.map_append]
              exact da_app (da_tk tk _ _ (tup_lns _) (dpAll_same sT hws)) (da_one (dp_tk tk _ _ rfl hT))
            · rcases List.mem_append.mp hx with h | h
              · exact okw x h
              · rw [List.mem_singleton.mp h]
                exact ⟨by omega, by omega, (tx z nm).ok⟩
          rintro H14 ⟨u7, ws, ls, hW, hws, okw, lw⟩
          rw [List.length_map] at lw
          have wl : ws.length = ls.length := by rw [da_len hws, List.length_map]
          have hN14 := u7 _ _ hN
          refine ⟨N, D, us, ws, rfl, rfl, hN14, hW, sz (by omega), fun E2 nE => ?_⟩
          have sE := same_new nE (o := .lst (us ++ ws))
          have hE := upd_same (H := H14) (a := E2) (o := .lst (us ++ ws))
          have dE : DpAll K (upd H14 E2 (.lst (us ++ ws))) (us ++ ws) ((lsN ++ ls).map lnD) := by
            rw [List.map_append]
            exact da_app (dpAll_same (u7.trans sE) dN) (dpAll_same sE hws)
          have okE : ∀ x ∈ lsN ++ ls, OkLn x := fun x hx => (List.mem_append.mp hx).elim (okN x) (okw x)
          have lE : (us ++ ws).length = 3 + ls.length := by rw [List.length_append]; omega
          have u13E := u7.trans sE
          have nEs := src_ne (src_same hA13 u7) nE
          generalize us ++ ws = vs at hE dE lE sE u13E ⊢
          generalize upd H14 E2 (.lst vs) = H15 at hE dE u13E ⊢
          have hA15 := src_same hA13 u13E
          walk_at "rd"
          refine ⟨E2, _, rfl, .inl (sq hE), ?_⟩
          refine draw_of hA15 ⟨by omega, by omega⟩ fun r16 H16 h160 h161 s16 hA16 => ?_
          obtain ⟨m, rfl⟩ := Int.eq_ofNat_of_zero_le h160
          have hm : m < vs.length := by omega
          have ev := List.getElem?_eq_getElem hm
          obtain ⟨l1, hl1, dl1⟩ := da_atM (da_tk (tk_but hA15 s16) _ _ (tup_lns _) dE) ev
          refine ⟨_, _, _, _, rfl, rfl, sq (s16 _ _ nEs.symm hE), atI_nat ev, ?_⟩
          exact hD' _ H16 ⟨_, _, _, l1, rfl, s2d.trans ((Bx.Same.but u13E).trans s16), hA16, dl1, okE l1 (List.mem_of_getElem? hl1)⟩
        · walk_at "rd"
          exact hD' _ H9 ⟨none, none, v0, l0, rfl, s29, hA9, dp_tk (tk_but hA8 s9) _ _ (tup_ln _) dl0, ok0⟩
    rintro σ' H9 ⟨o6, o7, v, ln, rfl, s29, hA9, dln, okn⟩
    have hS9 := s29 _ _ Ss hS2
    have hz9 := da_tk (tk_but hA2 s29) _ _ (tup_lns _) hz2
    walk_at "rd"
    obtain ⟨m1, d1, o1, l1⟩ := da_cut hz9 none (some (k : Int))
    refine ⟨S, zs, rfl, sq hS9, fun A1 nA => ?_⟩
    have s1 := same_new nA (o := .lst (cutV zs none (some (k : Int))))
    have hA1' := upd_same (H := H9) (a := A1) (o := .lst (cutV zs none (some (k : Int))))
    have d1' := dpAll_same s1 d1
    generalize upd H9 A1 (.lst (cutV zs none (some (k : Int)))) = H10 at s1 hA1' d1' ⊢
    have lv1 : (cutV zs none (some (k : Int))).length = m1.length := by rw [da_len d1, List.length_map]
    generalize cutV zs none (some (k : Int)) = c1 at hA1' d1' d1 lv1 ⊢
    walk_at "rd"
    refine ⟨sz (by show 1 ≤ 100000; decide), fun B nB => ?_⟩
    have s2' := same_new nB (o := .lst [v])
    have hB := upd_same (H := H10) (a := B) (o := .lst [v])
    generalize upd H10 B (.lst [v]) = H11 at s2' hB ⊢
    refine ⟨A1, B, c1, [v], rfl, rfl, s2' _ _ hA1', hB, sz (by show c1.length + 1 ≤ 100000; omega), fun C nC => ?_⟩
    have s3 := same_new nC (o := .lst (c1 ++ [v]))
    have hC := upd_same (H := H11) (a := C) (o := .lst (c1 ++ [v]))
    generalize upd H11 C (.lst (c1 ++ [v])) = H12 at s3 hC ⊢
    have s912 := s1.trans (s2'.trans s3)
    have dC : DpAll K H12 (c1 ++ [v]) ((m1 ++ [ln]).map lnD) := by
      rw [List.map_append]
      exact da_app (dpAll_same (s2'.trans s3) d1') (da_one (dp_same s912 dln))
    have lC : (c1 ++ [v]).length = m1.length + 1 := by rw [List.length_append, lv1]; rfl
    generalize c1 ++ [v] = c2 at hC dC lC
    walk_at "rd"
    have hz12 := dpAll_same s912 hz9
    obtain ⟨m2, d2, o2, l2⟩ := da_cut hz12 (some ((k : Int) + 1)) none
    refine ⟨S, zs, rfl, sq (s912 _ _ hS9), fun D nD => ?_⟩
    have s4 := same_new nD (o := .lst (cutV zs (some ((k : Int) + 1)) none))
    have hD := upd_same (H := H12) (a := D) (o := .lst (cutV zs (some ((k : Int) + 1)) none))
    have d2' := dpAll_same s4 d2
    have lv2 : (cutV zs (some ((k : Int) + 1)) none).length = m2.length := by rw [da_len d2, List.length_map]
    generalize upd H12 D (.lst (cutV zs (some ((k : Int) + 1)) none)) = H13 at s4 hD d2' ⊢
    generalize cutV zs (some ((k : Int) + 1)) none = c3 at hD d2' d2 lv2
    refine ⟨C, D, c2, c3, rfl, rfl, s4 _ _ hC, hD, sz (by omega), fun r nr => ?_⟩
    have s5 := same_new nr (o := .lst (c2 ++ c3))
    refine q r (c2 ++ c3) ((m1 ++ [ln]) ++ m2) _ (s02.trans (s29.trans (Bx.Same.but (s912.trans (s4.trans s5))))) (src_same hA9 (s912.trans (s4.trans s5))) upd_same ?_ (fun x hx => ?_) ?_
    · rw [List.map_append]
      exact da_app (dpAll_same (s4.trans s5) dC) (dpAll_same s5 d2')
    · rcases List.mem_append.mp hx with h | h
      · rcases List.mem_append.mp h with h | h
        · exact (okz x (o1 x h)).ok
        · rw [List.mem_singleton.mp h]
          exact okn
      · exact (okz x (o2 x h)).ok
    · rw [List.length_append, List.length_append]
      show m1.length + 1 + m2.length ≤ 100
      omega
end
end K08
namespace K08
local macro_rules | `(tactic| walk_at "rd") => `(tactic| repeat (first | refine ⟨rfl, ?_⟩ | refine ⟨_, rfl, ?_⟩ | refine ⟨_, _, rfl, rfl, ?_⟩ | refine ⟨⟨_, rfl⟩, ?_⟩))
open PySem PySem.Spec PyProof.Rows L2 Bx TL Dx Zx Ow Sup NdefX Px
/-! ### sorted clauses, each once, are one list -/
theorem toks_cl : ∀ c d : Cl, PySem.W.keyToksAll (c.map litD) = PySem.W.keyToksAll (d.map litD) → c = d
  | [], [], _ => rfl
  | [], _ :: _, h => by simp [PySem.W.keyToksAll] at h
  | _ :: _, [], h => by simp [PySem.W.keyToksAll] at h
  | x :: c, y :: d, h => by
    obtain ⟨a, i⟩ := x
    obtain ⟨b, j⟩ := y
    have h2 : (Sum.inl 1 : Int ⊕ List Nat) :: ([.inl 1, .inr a.cps.toList, .inl 1, .inl i, .inl 0] ++ PySem.W.keyToksAll (c.map litD)) = .inl 1 :: ([.inl 1, .inr b.cps.toList, .inl 1, .inl j, .inl 0] ++ PySem.W.keyToksAll (d.map litD)) := h
    simp only [List.cons_append, List.nil_append, List.cons.injEq, Sum.inr.injEq, Sum.inl.injEq, true_and] at h2
    rw [PySem.W.str_of_cps h2.1, h2.2.1, toks_cl c d h2.2.2]
theorem dle_anti {c d : Cl} (h1 : So.dle (clD c) (clD d) = true) (h2 : So.dle (clD d) (clD c) = true) : c = d := by
  have e1 : (!PySem.W.dataLt (clD d) (clD c)) = true := h1
  have e2 : (!PySem.W.dataLt (clD c) (clD d)) = true := h2
  rw [Bool.not_eq_true'] at e1 e2
  exact toks_cl c d (PyProof.Rows.KeyOrd.total (listOrd itemOrd) _ _ e2 e1)
theorem leastB_of {cs es : List Cl} (m : ∀ c, c ∈ es ↔ c ∈ cs) (c : Cl) : leastB es c = leastB cs c := by
  unfold leastB
  congr 1
  rw [Bool.eq_iff_iff, List.any_eq_true, List.any_eq_true]
  exact ⟨fun ⟨x, h, k⟩ => ⟨x, (m x).mp h, k⟩, fun ⟨x, h, k⟩ => ⟨x, (m x).mpr h, k⟩⟩
theorem cls_one {cs es fs : List Cl} (n1 : es.Nodup) (m1 : ∀ c, c ∈ es ↔ c ∈ cs) (s1 : (es.map clD).Pairwise fun a b => So.dle a b = true) (n2 : fs.Nodup) (s2 : fs.Pairwise fun a b => So.dle (clD a) (clD b) = true) (m2 : ∀ c, c ∈ fs ↔ c ∈ cs ∧ leastB cs c = true) : es.filter (leastB es) = fs := by
  refine List.Perm.eq_of_pairwise (le := fun a b => So.dle (clD a) (clD b) = true) (fun a b _ _ h1 h2 => dle_anti h1 h2) ((List.pairwise_map.mp s1).filter _) s2 ((List.perm_ext_iff_of_nodup (n1.filter _) n2).mpr fun c => ?_)
  rw [List.mem_filter, m1 c, m2 c, leastB_of m1]
theorem any_cl (cs : List Cl) (c : Cl) : ((cs.map clD).any fun z => PyData.eqv z (clD c)) = decide (c ∈ cs) := by
  rw [List.any_map, Bool.eq_iff_iff, List.any_eq_true, decide_eq_true_iff]
  refine ⟨fun ⟨x, h1, h2⟩ => ?_, fun h => ⟨c, h, ?_⟩⟩
  · have z : PyData.eqv (clD x) (clD c) = true := h2
    rw [eqv_cl, decide_eq_true_iff] at z
    rw [← z]
    exact h1
  · show PyData.eqv (clD c) (clD c) = true
    rw [eqv_cl, decide_eq_true_iff]
theorem lay_cls : ∀ {cs : List Cl}, (∀ c ∈ cs, OkC c) → PyData.canLayAll0 (cs.map clD) = true
  | [], _ => rfl
  | c :: cs, h => by
    show (PyData.canLay0 (clD c) && PyData.canLayAll0 (cs.map clD)) = true
    have e : PyData.canLay0 (clD c) = true := lay_lits (h c (List.mem_cons_self ..))
    rw [e, lay_cls fun x hx => h x (List.mem_cons_of_mem _ hx)]
    rfl
theorem dep_cls : ∀ cs : List Cl, PyData.depthAll (cs.map clD) ≤ 2
  | [] => Nat.zero_le _
  | c :: cs => by
    have ih := dep_cls cs
    have z := dep_cl c
    show max (clD c).depth (PyData.depthAll (cs.map clD)) ≤ 2
    omega
theorem sh_clsL {cs : List Cl} (h : ∀ c ∈ cs, OkC c) : SeqAt.shaped (.list (cs.map clD)) = true := by
  unfold SeqAt.shaped
  have z := dep_cls cs
  have e : PyData.canLay0 (.list (cs.map clD)) = true := lay_cls h
  have d : PyData.depth (.list (cs.map clD)) = PyData.depthAll (cs.map clD) + 1 := rfl
  rw [e, d, Bool.true_and, decide_eq_true_iff]
  omega
theorem sh_clsT {cs : List Cl} (h : ∀ c ∈ cs, OkC c) : SeqAt.shaped (.tuple (cs.map clD)) = true := by
  unfold SeqAt.shaped
  have z := dep_cls cs
  have e : PyData.canLay0 (.tuple (cs.map clD)) = true := lay_cls h
  have d : PyData.depth (.tuple (cs.map clD)) = PyData.depthAll (cs.map clD) + 1 := rfl
  rw [e, d, Bool.true_and, decide_eq_true_iff]
  omega
theorem eqv_clsL {cs : List Cl} (h : ∀ c ∈ cs, OkC c) : PyData.eqv (.list (cs.map clD)) (.list (cs.map clD)) = true := SeqAt.eqv_refl _ (lay_cls h)
theorem eqv_clsT {cs : List Cl} (h : ∀ c ∈ cs, OkC c) : PyData.eqv (.tuple (cs.map clD)) (.tuple (cs.map clD)) = true := SeqAt.eqv_refl _ (lay_cls h)
section
variable {P : Program} {w : World} {K : PySem.W.Frag} {mg : Str → Option Value} {base : Heap}
@[irreducible] def spLeastR (K : PySem.W.Frag) : Sp := fun vs H Q _ => ∃ (p : Addr) (xs : List V) (cs : List Cl), vs = [.ref p] ∧ H p = some (.lst xs) ∧ DpAll K H xs (cs.map clD) ∧ (∀ d ∈ cs, OkC d ∧ d.length ≤ 1000) ∧ cs.length < 64 ∧ ∀ H', Same H H' → Q (.bl true) H'
set_option maxHeartbeats 4000000 in
theorem ok_least_right {f : Addr} {fd : FuncData} (F : Fun K "_law_least_right" "_law_least_right" s__law_least_right f fd) (m_len : mg "len" = none) (m_list : mg "list" = none) (m_tuple : mg "tuple" = none) (m_sorted : mg "sorted" = none) (m_isinstance : mg "isinstance" = none)
    (C__law_within : Cal P w K mg base "_law_within" 1 ["_law_first", "_law_second"] (spWithin K)) (C__law_is_bool : Cal P w K mg base "_law_is_bool" 1 ["_law_actual", "_law_expected"] spIsB) (C_contains : Cal P w K mg base "contains" 1 ["first", "second"] (spContains K)) (C_least_clauses : Cal P w K mg base "least_clauses" 3 ["clauses"] (spLeast K)) : FnOk P w K mg base CX0 4 f fd ["_law_clauses_here"] (spLeastR K) := by
  refine F.ok sc__law_least_right (fun vs H Q E h => ?_) (fun cdv A outer s H vs Q E hr h => ?_)
  · unfold spLeastR at h
    obtain ⟨p, xs, cs, rfl, _⟩ := h
    rfl
  · unfold spLeastR at h
    obtain ⟨p, xs, cs, rfl, hp, hd, od, hl, q⟩ := h
    have xl : xs.length = cs.length := by rw [da_len hd, List.length_map]
    have oc : ∀ d ∈ cs, OkC d := fun d h => (od d h).1
    refine ⟨_, (pss_cons (ps_set (i := 1) sc__law_least_right.nd rfl (Or.inl rfl) (pe_lst pa_nil))
    (pss_cons (ps_for PassesOwn.never rfl (pi_list (pe_callB (id := "sorted") (Sd.cr_sortT (room hr)) (by rfl) m_sorted (by decide +kernel) (pa_cons (pv 0) pa_nil))) (pg_name (i := 2) sc__law_least_right.nd rfl (Or.inr rfl))
      (pss_cons (ps_setLc (i := 5) (own := [("_law_other", 6)]) rfl sc__law_least_right.nd rfl rfl (sw_true rfl rfl rfl (by decide +kernel)) (pi_list (pv 0)) (blkOk_by (N := n__law_least_right) (sc := defScope s__law_least_right) (by decide +kernel)) (fun _ _ _ _ _ => pg_name (i := 6) sc__law_least_right.nd rfl (Or.inl rfl)) (fun _ _ _ _ _ => pts_one (PW.pt (pw_and (pt_cmpR (Sl.op_neDK (K := K) rfl hr.units) (pv 6) (pv 2) (nomark _)) (pw_and1 (pt_val (pe_cal C__law_within (hr.mono (by decide)) (pa_cons (pv 2) (pa_cons (pv 6) pa_nil)))))))) (fun _ _ _ _ _ => (pv 6)))
    (pss_cons (ps_if (PW.pt (pw_and (pt_cmpR op_eq (pe_callB call_len_seq (by rfl) m_len PySem.boot_len (pa_cons (pv 5) pa_nil)) pe_int (nomark _)) (pw_and1 (pt_cmpR (op_notInD (room hr)) (pv 2) (pv 1) (by rfl)))))
      (pss_one (ps_expr (pe_bm PySem.F.plainAttrs_list PySem.F.slot_list_append PySem.F.type_list_append mt_append (pv 1) (pa_cons (pv 2) pa_nil))))
      pss_nil)
    (pss_one (ps_for PassesOwn.never rfl (pi_list (pv 0)) (pg_name (i := 6) sc__law_least_right.nd rfl (Or.inl rfl))
      (pss_one (ps_if (pt_not (pt_val (pe_cal C__law_is_bool (hr.mono (by decide)) (pa_cons (pe_cal C_contains (hr.mono (by decide)) (pa_cons (pv 2) (pa_cons (pv 6) pa_nil))) (pa_cons (pe_cal C__law_within (hr.mono (by decide)) (pa_cons (pv 2) (pa_cons (pv 6) pa_nil))) pa_nil)))))
      (pss_one (ps_ret pe_bl))
      pss_nil)))))))
    (pss_cons (ps_set (i := 3) sc__law_least_right.nd rfl (Or.inl rfl) (pe_callTy (T := "list") call_list_of (by rfl) m_list (by decide +kernel) (pa_cons (pv 0) pa_nil)))
    (pss_cons (ps_set (i := 4) sc__law_least_right.nd rfl (Or.inl rfl) (pe_cal C_least_clauses (hr.mono (by decide)) (pa_cons (pv 3) pa_nil)))
    (pss_cons (ps_if (PW.pt (pw_or (pt_cmpR (op_neD hr.units) (pv 3) (pv 0) (nomark _)) (pw_or1 (pt_cmpR (op_neD hr.units) (pe_cal C_least_clauses (hr.mono (by decide)) (pa_cons (pe_callTy (T := "tuple") call_tuple_of (by rfl) m_tuple (by decide +kernel) (pa_cons (pv 0) pa_nil)) pa_nil)) (pv 4) (nomark _)))))
      (pss_one (ps_ret pe_bl))
      pss_nil)
    (pss_one (ps_ret (pe_and (pe_callB (id := "isinstance") call_isi (by rfl) m_isinstance (by decide +kernel) (pa_cons (pv 4) (pa_cons (pe_bltn (v := .ty "tuple") (by rfl) m_tuple (by decide +kernel) rfl) pa_nil))) (pe_one (pe_cmpR (op_eqD hr.units) (pe_callTy (T := "list") call_list_of (by rfl) m_list (by decide +kernel) (pa_cons (pv 4) pa_nil)) (pv 1) (nomark _))))))))))), ?_⟩
    walk_at "rd"
    refine ⟨sz (by decide), fun M nM => ?_⟩
    have sM := same_new nM (o := .lst ([] : List V))
    have hM0 := upd_same (H := H) (a := M) (o := .lst ([] : List V))
    generalize upd H M (.lst []) = H0 at sM hM0 ⊢
    walk_at "rd"
    refine ⟨p, xs, cs.map clD, rfl, sq (sM _ _ hp), dpAll_same sM hd, all_alike alike_cl cs, fun e he => (by obtain ⟨l, _, rfl⟩ := List.mem_map.mp he; exact ⟨_, rfl⟩), by rw [List.length_map]; exact sz (by omega), fun e he => (by obtain ⟨l, _, rfl⟩ := List.mem_map.mp he; have z := dep_cl l; omega), fun ys R nR dR => ?_⟩
    have sR := same_new nR (o := .lst ys)
    have hR := upd_same (H := H0) (a := R) (o := .lst ys)
    have MR : M ≠ R := ne_of_none hM0 nR
    have nRH : H R = none := sM.free nR
    have dR2 := dpAll_same sR dR
    have pm : ((cs.map clD).mergeSort So.dle).Perm (cs.map clD) := List.mergeSort_perm _ _
    have srt := PySem.W.sort_pairwise dle_total (cs.map clD)
    obtain ⟨ls, els⟩ := unmap (f := clD) (l := (cs.map clD).mergeSort So.dle) fun e he => (by obtain ⟨l, _, e⟩ := List.mem_map.mp (pm.mem_iff.mp he); exact ⟨l, e⟩)
    rw [els] at dR2 pm srt
    have pe : ls.Perm cs := perm_unmap (fun x y e => cl_inj e) pm
    have srt2 : ls.Pairwise fun a b => So.dle (clD a) (clD b) = true := List.pairwise_map.mp srt
    have yl : ys.length = ls.length := by rw [da_len dR2, List.length_map]
    have lsl : ls.length = cs.length := pe.length_eq
    have hM1 := sR _ _ hM0
    have s1 := sM.trans sR
    clear dR sR
    generalize upd H0 R (.lst ys) = H1 at s1 hR hM1 dR2 ⊢
    refine ⟨R, rfl, ⟨_, sq hR⟩, for_it (walk_list (K := K) (a := R) (xs := ys)) (fun i σ H' => ∃ (o2 o5 o6 : Option V) (us : List V) (fs : List Cl), σ = [some (.ref p), some (.ref M), o2, none, none, o5, o6] ∧ Same H H' ∧ H' R = some (.lst ys) ∧ DpAll K H' ys (ls.map clD) ∧ H' M = some (.lst us) ∧ DpAll K H' us (fs.map clD) ∧ fs.Sublist (ls.take i) ∧ fs.Nodup ∧ ∀ c, c ∈ fs ↔ c ∈ ls.take i ∧ leastB cs c = true)
      ⟨none, none, none, [], [], rfl, s1, hR, dR2, hM1, .nil, List.nil_sublist _, List.nodup_nil, fun c => (by simp)⟩ (fun i σ H' _ ⟨_, _, _, _, _, _, _, h, _⟩ => sq h) ?_ ?_⟩
    · rintro i x σ H2a H2 hi ⟨o2, o5, o6, us, fs, rfl, s2, hR2, dR3, hM2, hus, sub, nd, mem⟩ ⟨rfl, hx⟩
      obtain ⟨c, hc1, dc⟩ := da_atM dR3 hx
      have cin : c ∈ cs := pe.mem_iff.mp (List.mem_of_getElem? hc1)
      have occ := oc c cin
      obtain ⟨b, zs, rfl, hb, ha⟩ := dp_tup dc
      have hp2 := s2 _ _ hp
      have hd2 := dpAll_same s2 hd
      walk_at "rd"
      refine ⟨⟨_, sq hp2⟩, fun D hD => ?_⟩
      have DM : M ≠ D := ne_of_none hM2 hD
      refine lc_it walk_list (fun j H' => Same H2 H' ∧ ∃ ws, H' D = some (.lst ws) ∧ ws.length = ((cs.take j).filter fun d => decide (d ≠ c) && inC c d).length) ⟨same_new hD, [], upd_same, rfl⟩ (fun j H' _ h => sq (h.1 _ _ hp2)) ?_ ?_
      · rintro j v H3a H3 hj ⟨s3, ws, hW, wl⟩ ⟨rfl, hx⟩
        obtain ⟨d, hd1, dd⟩ := da_atM hd2 hx
        have odd := oc d (List.mem_of_getElem? hd1)
        refine ⟨rfl, ?_⟩
        have d3 := dp_same s3 dd
        have c3 := dp_same s3 dc
        obtain ⟨e, es', rfl, he, hae⟩ := dp_tup dd
        have et : (cs.take (j + 1)).filter (fun d => decide (d ≠ c) && inC c d) = (cs.take j).filter (fun d => decide (d ≠ c) && inC c d) ++ [d].filter (fun d => decide (d ≠ c) && inC c d) := by
          rw [List.take_add_one, hd1, List.filter_append]
          rfl
        walk_at "rd"
        refine ⟨clD d, clD c, d3, c3, sh_cl odd, sh_cl occ, ?_⟩
        rw [eqv_cl]
        refine ⟨_, rfl, ite2 (fun h6 => ?_) (fun h6 => ?_)⟩
        · have hne : decide (d ≠ c) = true := by simpa using h6
          walk_at "rd"
          show spWithin K _ _ _ _
          unfold spWithin
          refine ⟨b, e, c, d, rfl, c3, d3, occ, odd, ?_⟩
          refine ⟨_, rfl, ite2 (fun h7 => ?_) (fun h7 => ?_)⟩
          · walk_at "rd"
            refine ⟨ws, hW, ?_, same_at hD s3, _, upd_same, ?_⟩
            · rw [wl]
              exact szl (Nat.lt_of_le_of_lt (Nat.le_trans (List.length_filter_le _ _) (List.length_take_le' j cs)) (by omega))
            · rw [et, List.length_append, List.length_append, wl, List.filter_cons, if_pos (by rw [hne, h7]; rfl)]
              rfl
          · refine ⟨s3, ws, hW, ?_⟩
            rw [et, List.length_append, wl, List.filter_cons, if_neg (by rw [hne, Bool.true_and]; exact h7)]
            rfl
        · have hne : ¬ decide (d ≠ c) = true := by simpa using h6
          refine ⟨s3, ws, hW, ?_⟩
          rw [et, List.length_append, wl, List.filter_cons, if_neg (by rw [Bool.eq_false_iff.mpr hne, Bool.false_and]; exact Bool.false_ne_true)]
          rfl
      rintro H3 ⟨s3, ws, hW, wl⟩
      rw [xl, List.take_length] at wl
      have lb : leastB cs c = decide (ws.length = 0) := by
        rw [wl, Bool.eq_iff_iff, decide_eq_true_iff, List.length_eq_zero_iff, List.filter_eq_nil_iff]
        unfold leastB
        rw [Bool.not_eq_true', List.any_eq_false]
      have hM3 := s3 _ _ hM2
      have hus3 := dpAll_same s3 hus
      have s23 := s2.trans s3
      have okf : ∀ d ∈ fs, OkC d := fun d hd => oc d (pe.mem_iff.mp (List.mem_of_mem_take ((mem d).mp hd).1))
      have mtk : ∀ z, z ∈ ls.take (i + 1) ↔ z ∈ ls.take i ∨ z = c := fun z => by
        rw [List.take_add_one, hc1, List.mem_append]
        simp
      have subk : fs.Sublist (ls.take (i + 1)) := by
        rw [List.take_add_one]
        exact sub.trans (List.sublist_append_left _ _)
      have keep : (leastB cs c = true → c ∈ fs) → ∀ z, z ∈ fs ↔ z ∈ ls.take (i + 1) ∧ leastB cs z = true := fun h z => by
        rw [mem z, mtk z]
        constructor
        · rintro ⟨a, k⟩
          exact ⟨.inl a, k⟩
        · rintro ⟨a | a, k⟩
          · exact ⟨a, k⟩
          · subst a
            exact (mem _).mp (h k)
      dsimp only [gName]
      refine st_co (fun H' => Same H H' ∧ H' R = some (.lst ys) ∧ DpAll K H' ys (ls.map clD) ∧ ∃ (us : List V) (fs : List Cl), H' M = some (.lst us) ∧ DpAll K H' us (fs.map clD) ∧ fs.Sublist (ls.take (i + 1)) ∧ fs.Nodup ∧ ∀ c, c ∈ fs ↔ c ∈ ls.take (i + 1) ∧ leastB cs c = true) (fun D' hD' => ?_) ?_
      · walk_at "rd"
        refine ⟨D, _, rfl, .inl (sq hW), ?_⟩
        walk_at "rd"
        refine ite2 (fun h6 => ?_) (fun h6 => ?_)
        · have h7 : ws.length = 0 := by
            have z : V.int (ws.length : Nat) = V.int 0 := of_decide_eq_true h6
            have z2 : ((ws.length : Nat) : Int) = 0 := V.int.inj z
            omega
          have h8 : leastB cs c = true := by rw [lb, decide_eq_true h7]
          walk_at "rd"
          refine ⟨clD c, fs.map clD, dp_same s3 dc, .lst (sq hM3) hus3, sh_cl occ, sh_clsL okf, ?_⟩
          rw [any_cl]
          by_cases m : c ∈ fs
          · rw [decide_eq_true m]
            walk_at "rd"
            exact hD' H3 ⟨s23, s3 _ _ hR2, dpAll_same s3 dR3, us, fs, hM3, hus3, subk, nd, keep fun _ => m⟩
          · rw [decide_eq_false m]
            walk_at "rd"
            refine ⟨.inl ⟨rfl, _, sq hM3⟩, ?_⟩
            walk_at "rd"
            have ul : us.length = fs.length := by rw [da_len hus, List.length_map]
            have fl : fs.length ≤ cs.length := by
              have z := sub.length_le
              have z2 := List.length_take_le' i ls
              omega
            refine ⟨M, _, _, rfl, rfl, hM3, szl (by omega), ?_⟩
            have tk := tk_lst (K := K) (o := .lst (us ++ [.ref b])) hM3
            refine hD' _ ⟨same_at nM s23, by rw [upd_ne MR.symm]; exact s3 _ _ hR2, da_tk tk _ _ (tup_cls _) (dpAll_same s3 dR3), us ++ [.ref b], fs ++ [c], upd_same, ?_, ?_, ?_, fun z => ?_⟩
            · rw [List.map_append]
              exact da_app (da_tk tk _ _ (tup_cls _) hus3) (da_one (dp_tk tk _ _ (tup_lits c) (dp_same s3 dc)))
            · rw [List.take_add_one, hc1]
              exact sub.append (List.Sublist.refl _)
            · rw [List.nodup_append]
              refine ⟨nd, List.nodup_cons.mpr ⟨List.not_mem_nil, List.nodup_nil⟩, fun a ha b hb e => ?_⟩
              rw [List.mem_singleton.mp hb] at e
              exact m (by rw [← e]; exact ha)
            · rw [List.mem_append, mem z, mtk z, List.mem_singleton]
              constructor
              · rintro (⟨a, k⟩ | a)
                · exact ⟨.inl a, k⟩
                · exact ⟨.inr a, by rw [a]; exact h8⟩
              · rintro ⟨a | a, k⟩
                · exact .inl ⟨a, k⟩
                · exact .inr a
        · have h7 : ¬ ws.length = 0 := fun z => h6 (by rw [z]; rfl)
          walk_at "rd"
          exact hD' H3 ⟨s23, s3 _ _ hR2, dpAll_same s3 dR3, us, fs, hM3, hus3, subk, nd, keep fun z => absurd (of_decide_eq_true (lb ▸ z)) h7⟩
      rintro H4 ⟨s4, hR4, dR4, us4, fs4, hM4, hus4, sub4, nd4, mem4⟩
      have hp4 := s4 _ _ hp
      have hd4 := dpAll_same s4 hd
      have tk4 : DpAll K H4 ys (ls.map clD) := dR4
      obtain ⟨c', hc', dc4⟩ := da_atM dR4 hx
      rw [hc1] at hc'
      cases hc'
      walk_at "rd"
      refine ⟨⟨_, sq hp4⟩, for_it (walk_list (K := K) (a := p) (xs := xs)) (fun j σ H' => ∃ o6 : Option V, σ = [some (.ref p), some (.ref M), some (.ref b), none, none, some (.ref D), o6] ∧ Same H4 H') ⟨_, rfl, Same.refl H4⟩ (fun j σ H' _ ⟨_, _, s⟩ => sq (s _ _ hp4)) ?_ ?_⟩
      · rintro j x σ H5a H5 hj ⟨o6, rfl, s5⟩ ⟨rfl, hx6⟩
        obtain ⟨d, hd1, dd⟩ := da_atM hd4 hx6
        obtain ⟨odd, ldd⟩ := od d (List.mem_of_getElem? hd1)
        obtain ⟨e, es', rfl, he, hae⟩ := dp_tup dd
        walk_at "rd"
        show spContains K _ _ _ _
        unfold spContains
        refine ⟨b, e, c, d, rfl, dp_same s5 dc4, dp_same s5 dd, occ, odd, ldd, fun H7 s7 => ?_⟩
        have s57 := s5.trans s7
        walk_at "rd"
        show spWithin K _ _ _ _
        unfold spWithin
        refine ⟨b, e, c, d, rfl, dp_same s57 dc4, dp_same s57 dd, occ, odd, ?_⟩
        show spIsB _ _ _ _
        unfold spIsB
        refine ⟨_, _, rfl, ?_⟩
        walk_at "rd"
        rw [decide_eq_true rfl]
        refine ite2 (fun h => absurd h (by decide)) (fun _ => ?_)
        walk_at "rd"
        exact s57
      · rintro σ H5 ⟨o6, rfl, s5⟩
        exact ⟨_, _, _, us4, fs4, rfl, s4.trans s5, s5 _ _ hR4, dpAll_same s5 dR4, s5 _ _ hM4, dpAll_same s5 hus4, sub4, nd4, mem4⟩
    rintro σ H2 ⟨o2, o5, o6, us, fs, rfl, s2, hR2, dR3, hM2, hus, sub, nd, mem⟩
    rw [yl, List.take_length] at sub mem
    have srtF : fs.Pairwise fun a b => So.dle (clD a) (clD b) = true := srt2.sublist sub
    have memF : ∀ c, c ∈ fs ↔ c ∈ cs ∧ leastB cs c = true := fun c => by rw [mem c, pe.mem_iff]
    have okf : ∀ d ∈ fs, OkC d := fun d hd => oc d ((memF d).mp hd).1
    have hp2 := s2 _ _ hp
    have hd2 := dpAll_same s2 hd
    walk_at "rd"
    refine ⟨p, _, rfl, .inl (sq hp2), fun L nL => ?_⟩
    have sL := same_new nL (o := .lst xs)
    have hL := upd_same (H := H2) (a := L) (o := .lst xs)
    generalize upd H2 L (.lst xs) = H3 at sL hL ⊢
    walk_at "rd"
    show spLeast K _ _ _ _
    unfold spLeast
    have hd3 := dpAll_same sL hd2
    refine ⟨L, xs, cs, rfl, .inl (sq hL), hd3, od, hl, fun r zs es H4 s4 hr4 nde me le se dz => ?_⟩
    have one1 := cls_one nde me se nd srtF memF
    rw [one1] at dz
    have s34 := sL.trans s4
    have hL4 := s4 _ _ hL
    have hd4 := dpAll_same s4 hd3
    walk_at "rd"
    refine ⟨.list (cs.map clD), .list (cs.map clD), .lst (sq hL4) hd4, .lst (sq (s34 _ _ hp2)) hd4, sh_clsL oc, sh_clsL oc, ?_⟩
    rw [eqv_clsL oc]
    refine ⟨_, rfl, ite2 (fun h => absurd h (by decide)) (fun _ => ?_)⟩
    walk_at "rd"
    refine ⟨p, _, rfl, .inl ⟨sq (s34 _ _ hp2), fun t nt => ?_⟩⟩
    have st := same_new nt (o := .tup xs)
    have ht := upd_same (H := H4) (a := t) (o := .tup xs)
    generalize upd H4 t (.tup xs) = H5 at st ht ⊢
    refine ⟨t, xs, cs, rfl, .inr (sqt ht), dpAll_same st hd4, od, hl, fun r2 zs2 es2 H6 s6 hr6 nde2 me2 le2 se2 dz2 => ?_⟩
    have one2 := cls_one nde2 me2 se2 nd srtF memF
    rw [one2] at dz2
    have s46 := st.trans s6
    have dz6 := dpAll_same s46 dz
    have hr46 := Bx.Same.tup s46 hr4
    walk_at "rd"
    refine ⟨.tuple (fs.map clD), .tuple (fs.map clD), .tup hr6 dz2, .tup hr46 dz6, sh_clsT okf, sh_clsT okf, ?_⟩
    rw [eqv_clsT okf]
    refine ⟨_, rfl, ite2 (fun h => absurd h (by decide)) (fun _ => ?_)⟩
    walk_at "rd"
    refine ⟨_, _, _, _, true, rfl, .ty "tuple", ty_tup hr46, kit_ty (by decide +kernel), ?_⟩
    walk_at "rd"
    refine ⟨r, _, rfl, .inr hr46, fun N nN => ?_⟩
    have sN := same_new nN (o := .lst zs)
    have hN := upd_same (H := H6) (a := N) (o := .lst zs)
    generalize upd H6 N (.lst zs) = H7 at sN hN ⊢
    have s27 := s34.trans (s46.trans sN)
    walk_at "rd"
    refine ⟨.list (fs.map clD), .list (fs.map clD), .lst (sq hN) (dpAll_same sN dz6), .lst (sq (s27 _ _ hM2)) (dpAll_same s27 hus), sh_clsL okf, sh_clsL okf, ?_⟩
    rw [eqv_clsL okf]
    exact q H7 (s2.trans s27)
end
end K08
/-! sorted(a tuple of tuples of alike data), the empty tuple among them. -/
namespace Sd
open PySem PySem.Spec PyProof.Rows L2 Bx TL Dx PySem.W PySem.Calls
section
variable {P : Program} {w : World} {A : Around} {E : Value → Shared → Prop} {s : Shared} {vs : List Value} {bs : List PyData} {R : Value → PyData → Prop}
theorem sorted_seqT {a : Addr} {Q : Value → Shared → Prop} (ht : s.heap.IsTuple a vs.toArray) (e : EachIs R vs bs) (er : EachIs (fun v b => ∃ as, PySem.Reads s.heap v b as) vs bs) (hal : AllAlike bs) (hp : ∀ b ∈ bs, (∃ xs, b = .tuple xs) ∧ plain b = true) (hL : bs.length ≤ sizeLine)
    (hu : ∀ b, b ∈ bs → A.units + 2 + b.depth < cLine)
    (hQ : ∀ (h' : PySem.Heap) (p : Addr) (out : List Value) (c : Nat), (∀ b o, s.heap.get? b = some o → h'.get? b = some o) → s.heap.get? p = none → h'.get? p = some (seqObj "list" out.toArray c) → EachIs R out (bs.mergeSort (dataLe false id)) → Q (.ref p) { s with heap := h' }) :
    wpAny (model P w) A (call (.builtin "sorted") [.ref a]) Q E s := by
  obtain ⟨o, ho, hc, n, hd⟩ := ht
  have hvl : vs.length = bs.length := e.length
  refine Calls.call_function_entry kind_sorted plain_sorted entry_sorted (args_sorted1 _) ?_
  unfold Builtin.«sorted»
  refine wpAny_bind (m := checkCount "sorted" 1 1 _) (wpAny_pure ?_)
  refine wpAny_bind (wpAny_collect_seq a (.inr rfl) ho hc hd (fun h1 k1 => ?_) (by rw [List.size_toArray]; omega))
  have ez : vs.toArray.toList = vs := by simp
  rw [ez]
  have hline : vs.length ≤ sizeLine := by omega
  refine wpAny_bind (wpAny_newList ?_ hline)
  have hoL : (h1.push (seqObj "list" vs.toArray 0)).get? h1.objs.size = some (seqObj "list" vs.toArray 0) := Heap.get?_push_size _ rfl
  have kp : ∀ b u, s.heap.get? b = some u → (h1.push (seqObj "list" vs.toArray 0)).get? b = some u := fun b u q => Heap.get?_push_of_some _ (k1 b u q)
  refine wpAny_bind (wpAny_holding (list_sort_tups (R := R) (enc := id) (bs := bs) hoL e ?reads (by rw [List.map_id]; exact hal) (fun d hd => (hp d hd).1) hL (fun d hd => ?room) fun out hout eo => ?done))
  case reads =>
    have both : EachIs (fun u d => (∃ as, PySem.Reads s.heap u d as)) vs bs := er
    refine (each_mem both).mono fun u d z => ?_
    obtain ⟨as, r⟩ := z.1
    have z0 := (is_nk d u as (hp d z.2).2 r).2
    exact ⟨as, PyProof.Rows.Reads.keeps kp r, by rw [z0]; exact List.not_mem_nil⟩
  case room =>
    have z := hu d hd
    show A.in1.units + 1 + d.depth < cLine
    simp only [Around.in1_units]
    omega
  case done =>
    obtain ⟨c, hc⟩ := sortedHeap_at (vs := vs) (out := out.toArray) hoL
    have hnone : s.heap.get? h1.objs.size = none := by
      cases q : s.heap.get? h1.objs.size with
      | none => rfl
      | some u => exact absurd (Heap.lt_size (k1 _ _ q)) (Nat.lt_irrefl _)
    refine wpAny_pure ⟨_, rfl, hQ _ h1.objs.size out c (fun b u q0 => ?_) hnone hc eo⟩
    have q := k1 b u q0
    have hlt := Heap.lt_size q
    show (sortedHeap (h1.push (seqObj "list" vs.toArray 0)) h1.objs.size vs _).get? b = some u
    rw [sortedHeap_old (Nat.ne_of_lt hlt) (by rw [size_push']; exact Nat.lt_succ_of_lt hlt)]
    exact Heap.get?_push_of_some _ q
end
section
variable {X : Cx}
def rSortTT (K : PySem.W.Frag) : List V → Hp → VK → Prop := fun xs H Q => ∃ (a : Addr) (vs : List V) (ds : List PyData), xs = [V.ref a] ∧ SqT K H a vs ∧ DpAll K H vs ds ∧ AllAlike ds ∧ (∀ d ∈ ds, (∃ xs, d = .tuple xs) ∧ plain d = true) ∧ ds.length ≤ sizeLine ∧ (∀ d ∈ ds, d.depth ≤ 60) ∧
  ∀ (ys : List V) (p : Addr), H p = none → DpAll K H ys (ds.mergeSort So.dle) → Q (.ref p) (upd H p (.lst ys))
theorem cr_sortTT (hu : X.A.units + 65 < cLine) : CallR X (.builtin "sorted") (rSortTT X.K) := by
  intro pins s σ H xs us Q I r h
  obtain ⟨a, vs, ds, rfl, hs, hd, hal, hso, hz, hdp, q⟩ := h
  rw [Vals.ref1 r]
  obtain ⟨its, rv, pl, _⟩ := I.tuple hs
  have ea := So.each_of I hd rv
  refine sorted_seqT (bs := ds) (R := fun u d => ∃ v, Dp X.K H v d ∧ L2.RelV v u) pl (ea.mono fun _ _ z => z.1) (ea.mono fun _ _ z => z.2) hal hso hz (fun d hd => ?_) fun h' p out c k hp hg eo => ?_
  · have := hdp d hd
    omega
  · obtain ⟨ys, ry, dy⟩ := So.each_back eo
    have hl2 : ys.length ≤ sizeLine := by
      have z := eo.length
      rw [List.length_mergeSort] at z
      rw [ry.length, z]
      exact hz
    have hn : H p = none := I.hok.gone hp
    exact ⟨.ref p, _, I.laidN (t' := s.toks) (o := .lst ys) k hp hn ⟨hl2, out, c, ry, hg⟩, rfl, q ys p hn dy⟩
end
end Sd
/-! t[::-1] of a tuple. -/
namespace Rt
open PySem PySem.Spec PyProof.Rows L2 HT
section
variable {prog : Program} {w : World} {A : Around} {E : Value → Shared → Prop} {s : Shared}
theorem sliceApplied_rev {sl : Addr} {vs : Value} {n : Nat} {Q : Int × Int × Nat → Shared → Prop} (hs : s.heap.IsSliceOf sl .none .none vs) (ps : IsPart vs (some (-1))) (h : Q ((n : Int) - 1, -1, n) s) :
    wpAny (model prog w) A (Builtin.Slice.sliceApplied (.ref sl) (pure (n : Int))) Q E s := by
  obtain ⟨os, hos, hcs, hds⟩ := id hs
  unfold Builtin.Slice.sliceApplied Builtin.Slice.sliceFields
  refine wpAny_bind (wpAny_bind (wpAny_field hos hds (x := .none) rfl (wpAny_bind (wpAny_field hos hds (x := .none) rfl (wpAny_bind (wpAny_field hos hds (x := vs) rfl (wpAny_pure ?_)))))))
  refine wpAny_bind (slicePart_ ps ?_)
  show wpAny _ _ (if ((-1 : Int) == 0) = true then _ else _) _ _ s
  rw [if_neg (by decide)]
  refine wpAny_bind (slicePart_none (wpAny_bind (slicePart_none (wpAny_bind (wpAny_pure ?_)))))
  show wpAny _ _ (pure ((n : Int) - 1, (-1 : Int), Builtin.Slice.slicePlaces ((n : Int) - 1) (-1) (-1))) _ _ s
  have e : Builtin.Slice.slicePlaces ((n : Int) - 1) (-1) (-1) = n := by
    unfold Builtin.Slice.slicePlaces
    rw [if_neg (by decide)]
    split
    · have e2 : ((n : Int) - 1 - -1 - 1) / (- -1) = (n : Int) - 1 := by
        rw [show (- -1 : Int) = 1 by decide, Int.ediv_one]
        omega
      rw [e2]
      omega
    · show (0 : Int).toNat = n
      omega
  rw [e]
  exact wpAny_pure h
theorem pick_rev (xs : Array Value) : ((List.range xs.size).filterMap fun (k : Nat) => xs[(((xs.size : Int) - 1) + (k : Int) * -1).toNat]?).toArray = xs.toList.reverse.toArray := by
  have e : (fun (k : Nat) => xs[(((xs.size : Int) - 1) + (k : Int) * -1).toNat]?) = (xs[·]?) ∘ fun k => xs.size - 1 - k := by
    funext k
    have : (((xs.size : Int) - 1) + (k : Int) * -1).toNat = xs.size - 1 - k := by omega
    show xs[(((xs.size : Int) - 1) + (k : Int) * -1).toNat]? = xs[xs.size - 1 - k]?
    rw [this]
  rw [e, ← List.filterMap_map, PySem.W.krv_range, List.filterMap_reverse, PySem.W.krv_all]
theorem getItem_tuple_rev {t sl : Addr} {items : Array Value} {vs : Value} {Q : Value → Shared → Prop} (ht : IsTup s.heap t items) (hs : s.heap.IsSliceOf sl .none .none vs) (ps : IsPart vs (some (-1)))
    (h : Q (.ref s.heap.objs.size) { s with heap := s.heap.push { cls := .type "tuple", data := .seq items.toList.reverse.toArray } })
    (hsz : items.size ≤ sizeLine) : wpAny (model prog w) A (getItem (.ref t) (.ref sl)) Q E s := by
  have htake : sizeOk (.seq items.toList.reverse.toArray) := by
    show items.toList.reverse.toArray.size ≤ sizeLine
    rw [List.size_toArray, List.length_reverse, Array.length_toList]
    exact hsz
  obtain ⟨os, hos, hcs, hds⟩ := id hs
  have hTs : s.TypeIs (.ref sl) "slice" := ⟨os, hos, hcs⟩
  unfold getItem
  try with_reducible refine wpAny_holding ?_
  first | refine wpAny_bind (wpAny_pure ?_) | skip
  refine wpAny_bind (wpAny_sequenceKey ht.typeIs (by decide) ?_)
  refine wpAny_bind (wpAny_callSpecial?_slot (name := Str.ofString "__getitem__") ht.typeIs PyProof.Rows.slot_tuple_getitem
    (wpAny_call_entry PyProof.Rows.slot_tuple_getitem ht.typeIs entry_tuple_getitem ?_ (args_tuple_getitem _ _)))
  show wpAny _ _ (Builtin.Tuple.tupleItemsOf (.ref t) >>= _) _ _ s
  refine wpAny_bind (tupleItemsOf_ ht ?_)
  refine wpAny_bind (wpAny_typeOf hTs ?_)
  rw [if_pos (by decide)]
  refine wpAny_bind (sliceApplied_rev hs ps ?_)
  have hno : ¬ (((((items.size : Int) - 1) == 0 && (-1 : Int) == 1) && items.size == items.size) = true) := by
    rw [show ((-1 : Int) == 1) = false by decide, Bool.and_false, Bool.false_and]
    exact Bool.false_ne_true
  show wpAny _ _ (if ((((items.size : Int) - 1) == 0 && (-1 : Int) == 1) && items.size == items.size) = true then _ else _) _ _ s
  rw [if_neg hno, pick_rev]
  first
    | exact wpAny_bind (m := Builtin.Tuple.tupleExact _) (wpAny_newObj_type (wpAny_pure ⟨_, rfl, wpAny_pure h⟩) htake)
    | exact wpAny_bind (m := Builtin.Tuple.tupleExact _) (wpAny_newObj_type (wpAny_bind (wpAny_pure (wpAny_pure ⟨_, rfl, wpAny_pure h⟩))) htake)
    | exact wpAny_bind (wpAny_bind (m := Builtin.Tuple.tupleExact _) (wpAny_newObj_type (wpAny_pure (wpAny_pure ⟨_, rfl, wpAny_pure h⟩)) htake))
    | exact wpAny_bind (wpAny_bind (m := Builtin.Tuple.tupleExact _) (wpAny_newObj_type (wpAny_pure ⟨_, rfl, wpAny_pure h⟩) htake))
end
section
variable {X : Cx}
def tRevT (K : PySem.W.Frag) (te : TE) : TE := fun σ H Q => te σ H fun x H1 => ∃ a xs, x = .ref a ∧ SqT K H1 a xs ∧ ∀ p, H1 p = none → Q (.ref p) (upd H1 p (.tup xs.reverse))
theorem pe_revT {e : Expr} {te : TE} {k : Nat} {p1 p2 p3 pos : Pos} (he : PE X e te) : PE X (.Subscript e (.Slice none none (some (.UnaryOp .USub (.Constant (.int 1) k p1) p2)) p3) pos) (tRevT X.K te) := by
  refine ⟨fun pins s σ H Q I h => ?_⟩
  refine Subscript_ (thn (he.run pins s σ H _ I h) fun v s1 ⟨x, H1, I1, r1, q1⟩ => ?_)
  obtain ⟨a, xs, ex, hx, q⟩ := q1
  subst ex
  cases r1
  have hst : PO X (some (.UnaryOp .USub (.Constant (.int 1) k p1) p2)) (tPart (tUn (rU fun i => .int (-i)) (tC (.int 1)))) := po_some (pe_un un_neg pe_int)
  refine wpAny_Slice (thn (po_none.run pins s1 σ H1 (fun o H2 => o = none ∧ H2 = H1) I1 ⟨rfl, rfl⟩) fun vl s2 ⟨l, H2, I2, pl, el, e2⟩ => ?_)
  subst el e2
  refine thn (po_none.run pins s2 σ H2 (fun o H3 => o = none ∧ H3 = H2) I2 ⟨rfl, rfl⟩) fun vu s3 ⟨u, H3, I3, pu, eu, e3⟩ => ?_
  subst eu e3
  refine thn (hst.run pins s3 σ H3 (fun o H4 => o = some (-1) ∧ H4 = H3) I3 ⟨1, rfl, -1, rfl, rfl, rfl⟩) fun vs s4 ⟨o, H4, I4, ps, eo, e4⟩ => ?_
  subst eo e4
  cases pl
  cases pu
  have I5 : Inv X pins σ H4 { s4 with heap := s4.heap.push { cls := .type "slice", data := .fields #[.none, .none, vs] } } := I4.kept (t' := s4.toks) fun b ob q => Heap.get?_push_of_some _ q
  obtain ⟨its, r, ht, hz⟩ := I5.tuple hx
  have hlen := r.length
  show wpAny (model X.prog X.w) X.A (subscriptTail e (.Slice none none (some (.UnaryOp .USub (.Constant (.int 1) k p1) p2)) p3) (.ref a) (.ref s4.heap.objs.size)) (EP X pins σ Q) X.xe { s4 with heap := s4.heap.push { cls := .type "slice", data := .fields #[.none, .none, vs] } }
  refine tail_any (ops := [.ref a, .ref s4.heap.objs.size]) ht.typeIs (PyProof.Rows.slot_tuple_getitem.lookup) ?_ (by with_unfolding_all rfl)
  refine getItem_tuple_rev ht (Heap.IsSliceOf.new _ .none .none vs) ps ?_ (by rw [List.size_toArray]; omega)
  refine ⟨.ref _, _, I5.laid (t' := s4.toks) (o := .tup xs.reverse) (fun b ob q => Heap.get?_push_of_some _ q) (Nat.le_refl _) ?_, rfl, q _ (I5.hok.fresh (Nat.le_refl _))⟩
  exact ⟨by rw [List.length_reverse]; exact hz, _, r.reverse, IsTup.new _ _⟩
end
end Rt
namespace K08
local macro_rules | `(tactic| walk_at "rd") => `(tactic| repeat (first | refine ⟨rfl, ?_⟩ | refine ⟨_, rfl, ?_⟩ | refine ⟨_, _, rfl, rfl, ?_⟩ | refine ⟨⟨_, rfl⟩, ?_⟩))
open PySem PySem.Spec PyProof.Rows L2 Bx TL Dx Zx Ow Sup NdefX Px
theorem bare_new {H : Hp} {C k dk : Addr} (nk : H k = none) (nd : H dk = none) (ne : dk ≠ k) : Same H (upd (upd H dk (.own k)) k (.ins C dk [])) ∧ (upd (upd H dk (.own k)) k (.ins C dk [])) k = some (.ins C dk []) :=
  ⟨Same.trans (same_new nd) (same_new (by rw [upd_ne (Ne.symm ne)]; exact nk)), upd_same⟩
theorem put_as {l : As} {z : Str} {v : Int} (h : z ∉ l.map (·.1)) : putK (asV l) (.inr z) (.int v) = asV (l ++ [(z, v)]) := by
  unfold putK
  have e : ((asV l).any fun kv => decide (kv.1 = .inr z)) = false := by
    rw [List.any_eq_false]
    intro kv hk
    unfold asV at hk
    obtain ⟨p, hp, rfl⟩ := List.mem_map.mp hk
    simp only [decide_eq_true_eq]
    intro e
    exact h (List.mem_map.mpr ⟨p, hp, Sum.inr.inj e⟩)
  rw [e]
  show asV l ++ [(.inr z, .int v)] = _
  unfold asV
  rw [List.map_append]
  rfl
theorem dec_int (a b : Int) : decide (V.int a = V.int b) = decide (a = b) := decide_eq_decide.mpr ⟨V.int.inj, fun e => congrArg V.int e⟩
/-! ### valid and not valid -/
theorem ok_vc {ns : List Str} {c : Cl} (v : Vc ns c) : okCl ns c = true := by
  unfold okCl
  have a : (c.all fun l => decide (l.1 ∈ ns)) = true := List.all_eq_true.mpr fun l hl => decide_eq_true (v.2 l hl).1
  have b : ascB (c.map (·.1)) = true := ascB_iff.mpr (List.pairwise_map.mpr v.1)
  have d : (c.all fun l => decide (l.2 = 0 ∨ l.2 = 1)) = true := List.all_eq_true.mpr fun l hl => decide_eq_true (v.2 l hl).2
  rw [a, b, d]
  rfl
theorem no_asc {ns : List Str} {c : Cl} (h : ¬ Asc (c.map (·.1))) : okCl ns c = false := by
  unfold okCl
  rw [Bool.eq_false_iff.mpr fun z => h (ascB_iff.mp z), Bool.false_and, Bool.and_false]
theorem no_dup {ns : List Str} {c : Cl} (h : ¬ (c.map (·.1)).Nodup) : okCl ns c = false := no_asc fun a => h (asc_nodup a)
theorem no_rev {ns : List Str} {c : Cl} (v : Vc ns c) (h : 1 < c.length) : okCl ns c.reverse = false := by
  refine no_asc fun a => ?_
  match c, v, h with
  | x :: y :: r, v, _ =>
    have up := (List.pairwise_cons.mp v.1).1 y (List.mem_cons_self ..)
    have a2 : ((x :: y :: r).reverse).Pairwise fun p q => p.1.cps.toList < q.1.cps.toList := (List.pairwise_map (R := fun x y : Str => x.cps.toList < y.cps.toList) (f := fun l : Lit => l.1)).mp a
    rw [List.pairwise_reverse] at a2
    have dn := (List.pairwise_cons.mp a2).1 y (List.mem_cons_self ..)
    exact List.lt_irrefl _ (List.lt_trans up dn)
theorem no_name {ns : List Str} {c : Cl} {g : Lit} (m : g ∈ c) : okCl (ns.filter fun z => decide (z ≠ g.1)) c = false := by
  unfold okCl
  have a : (c.all fun l => decide (l.1 ∈ ns.filter fun z => decide (z ≠ g.1))) = false := by
    rw [List.all_eq_false]
    exact ⟨g, m, by rw [decide_eq_true_iff, List.mem_filter]; exact fun z => of_decide_eq_true z.2 rfl⟩
  rw [a, Bool.false_and]
theorem no_twice {ns : List Str} {c d : Cl} {g e : Lit} (m : g ∈ c) (h : d.Perm (c ++ [e])) (he : e.1 = g.1) : okCl ns d = false := by
  refine no_dup fun nd => ?_
  have nd2 : ((c ++ [e]).map (·.1)).Nodup := (h.map (·.1)).nodup_iff.mp nd
  rw [List.map_append, List.nodup_append] at nd2
  exact nd2.2.2 g.1 (List.mem_map.mpr ⟨g, m, rfl⟩) e.1 (List.mem_singleton.mpr rfl) he.symm
/-- the literal with a wrong sign -/
def wr (g l : Lit) : Lit := (l.1, l.2 + 2 * (if decide (l = g) = true then 1 else 0))
theorem no_sign {ns : List Str} {c : Cl} {g : Lit} (v : Vc ns c) (m : g ∈ c) : okCl ns (c.map (wr g)) = false := by
  unfold okCl
  have s := (v.2 g m).2
  have a : ((c.map (wr g)).all fun l => decide (l.2 = 0 ∨ l.2 = 1)) = false := by
    rw [List.all_eq_false]
    refine ⟨wr g g, List.mem_map.mpr ⟨g, m, rfl⟩, ?_⟩
    rw [decide_eq_true_iff]
    unfold wr
    rw [decide_eq_true rfl, if_pos rfl]
    show ¬ (g.2 + 2 * 1 = 0 ∨ g.2 + 2 * 1 = 1)
    omega
  rw [a, Bool.and_false, Bool.and_false]
theorem da_snoc {K : PySem.W.Frag} {H : Hp} {xs : List V} {ds : List PyData} {v : V} {d : PyData} (h : DpAll K H xs ds) (k : Dp K H v d) : DpAll K H (xs ++ [v]) (ds ++ [d]) := da_app h (da_one k)
theorem da_rev {K : PySem.W.Frag} {H : Hp} : ∀ {xs : List V} {ds : List PyData}, DpAll K H xs ds → DpAll K H xs.reverse ds.reverse
  | [], [], _ => .nil
  | x :: xs, d :: ds, .cons h1 h2 => by
    rw [List.reverse_cons, List.reverse_cons]
    exact da_snoc (da_rev h2) h1
section
variable {P : Program} {w : World} {K : PySem.W.Frag} {mg : Str → Option Value} {base : Heap}
/-- a pair of names and a clause that is not valid for them -/
def Bad (K : PySem.W.Frag) (H : Hp) (v : V) : Prop := ∃ (T a p : Addr) (ns : List Str) (c : Cl), v = .ref T ∧ SqT K H T [.ref a, .ref p] ∧ SqT K H a (ns.map V.str) ∧ Dp K H (.ref p) (clD c) ∧ OkC c ∧ c.length ≤ 1000 ∧ okCl ns c = false
theorem Bad.same {H H' : Hp} {v : V} (s : Same H H') : Bad K H v → Bad K H' v := fun ⟨T, a, p, ns, c, e, h1, h2, h3, h4⟩ => ⟨T, a, p, ns, c, e, Bx.Same.tup s h1, Bx.Same.tup s h2, dp_same s h3, h4⟩
@[irreducible] def spMeth (K : PySem.W.Frag) : Sp := fun vs H Q _ => ∃ (s na p : Addr) (ns : List Str) (c : Cl), vs = [.ref s, .ref na, .ref p] ∧ Src H s ∧ SqT K H na (ns.map V.str) ∧ Asc ns ∧ (∀ z ∈ ns, Tx 17 z) ∧ ns.length ≤ 20 ∧ Dp K H (.ref p) (clD c) ∧ Vc ns c ∧ ∀ H', SameBut s H H' → Src H' s → Q (.bl true) H'
set_option maxHeartbeats 4000000 in
theorem ok_methods {C : Addr} {f : Addr} {fd : FuncData} (F : Fun K "_law_methods_right" "_law_methods_right" s__law_methods_right f fd) (m_len : mg "len" = none) (m_range : mg "range" = none) (m_int : mg "int" = none) (m_tuple : mg "tuple" = none) (m_sorted : mg "sorted" = none) (C__law_draw : CDraw P w K mg base) (C__law_is_bool : Cal P w K mg base "_law_is_bool" 1 ["_law_actual", "_law_expected"] spIsB) (B_Bits : Mk0.Bare K mg "Bits" C)
    (M_names_in : MthC P w K mg base C "names_in" 1 ["self", "constraint"] (spNIn K)) (M_holds : MthC P w K mg base C "holds" 1 ["self", "constraint", "assignment"] (spHolds K)) (M_is_valid : MthC P w K mg base C "is_valid" 4 ["self", "names", "constraint"] (spSV K C)) : FnOk P w K mg base CX0 6 f fd ["_law_source_here", "_law_names_here", "_law_clause_here"] (spMeth K) := by
  refine F.ok sc__law_methods_right (fun vs H Q E h => ?_) (fun cdv A outer s H vs Q E hr h => ?_)
  · unfold spMeth at h
    obtain ⟨s, na, p, ns, c, rfl, _⟩ := h
    rfl
  · unfold spMeth at h
    obtain ⟨src, na, p, ns, c, rfl, hA, hna, asc, tx, nl, hp, vc, q⟩ := h
    obtain ⟨oc, lc⟩ := vc_ok tx nl vc
    have hu := hu_of hr
    refine ⟨_, (pss_cons (ps_if (pt_cmpR (op_neD hr.units) (pe_mth M_names_in (hr.mono (by decide)) (Mk0.pe_bare B_Bits) (pa_cons (pv 2) pa_nil) (ht := mcall_of (abase_call (by decide +kernel)) (fun _ => rfl))) (pe_callTy (T := "tuple") call_tuple_of (by rfl) m_tuple (by decide +kernel) (pa_cons (pe_lc (own := [("_law_literal", 12)]) (tt := tYes) rfl sc__law_methods_right.nd (pi_tup (pv 2)) (blkOk_by (N := n__law_methods_right) (sc := defScope s__law_methods_right) (by decide +kernel)) (fun _ _ _ _ _ => pg_name (i := 12) sc__law_methods_right.nd rfl (Or.inl rfl)) (fun _ _ _ _ _ => pts_nil) (fun _ _ _ _ _ => (pe_ix (ix_tupK (K := K) rfl) (pv 12) pe_int (fun _ _ => rfl)))) pa_nil)) (nomark _))
      (pss_one (ps_ret pe_bl))
      pss_nil)
    (pss_cons (ps_for PassesOwn.never rfl (pi_range1 (by rfl) m_range (pa_cons pe_int pa_nil)) (pg_name (i := 3) sc__law_methods_right.nd rfl (Or.inl rfl))
      (pss_cons (ps_set (i := 9) sc__law_methods_right.nd rfl (Or.inr rfl) pe_dnewK)
    (pss_cons (ps_for PassesOwn.never rfl (pi_tup (pv 1)) (pg_name (i := 10) sc__law_methods_right.nd rfl (Or.inl rfl))
      (pss_one (ps_dput hu (pv 9) (pv 10) (pe_cal C__law_draw (hr.mono (by decide)) (pa_cons (pv 0) (pa_cons pe_int pa_nil))) rfl)))
    (pss_cons (ps_setLc (i := 11) (own := [("_law_literal", 12)]) rfl sc__law_methods_right.nd rfl rfl (sw_true rfl rfl rfl (by decide +kernel)) (pi_tup (pv 2)) (blkOk_by (N := n__law_methods_right) (sc := defScope s__law_methods_right) (by decide +kernel)) (fun _ _ _ _ _ => pg_name (i := 12) sc__law_methods_right.nd rfl (Or.inl rfl)) (fun _ _ _ _ _ => pts_one (pt_cmpR op_eq (pe_dget hu (pv 9) (pe_ix (ix_tupK (K := K) rfl) (pv 12) pe_int (fun _ _ => rfl)) (fun _ _ => rfl)) (pe_ix (ix_tupK (K := K) rfl) (pv 12) pe_int (fun _ _ => rfl)) (nomark _))) (fun _ _ _ _ _ => (pv 12)))
    (pss_one (ps_if (pt_not (pt_val (pe_cal C__law_is_bool (hr.mono (by decide)) (pa_cons (pe_mth M_holds (hr.mono (by decide)) (Mk0.pe_bare B_Bits) (pa_cons (pv 2) (pa_cons (pv 9) pa_nil)) (ht := mcall_of (abase_call (by decide +kernel)) (fun _ => rfl))) (pa_cons (pe_cmpR op_gt (pe_callB call_len_seq (by rfl) m_len PySem.boot_len (pa_cons (pv 11) pa_nil)) pe_int (nomark _)) pa_nil)))))
      (pss_one (ps_ret pe_bl))
      pss_nil))))))
    (pss_cons (ps_if (pt_not (pt_val (pe_cal C__law_is_bool (hr.mono (by decide)) (pa_cons (pe_mth M_is_valid (hr.mono (by decide)) (Mk0.pe_bare B_Bits) (pa_cons (pv 1) (pa_cons (pv 2) pa_nil)) (ht := mcall_of (abase_call (by decide +kernel)) (fun _ => rfl))) (pa_cons pe_bl pa_nil)))))
      (pss_one (ps_ret pe_bl))
      pss_nil)
    (pss_cons (ps_if (pt_cmpR op_eq (pe_callB call_len_seq (by rfl) m_len PySem.boot_len (pa_cons (pv 2) pa_nil)) pe_int (nomark _))
      (pss_one (ps_ret pe_bl))
      pss_nil)
    (pss_cons (ps_set (i := 4) sc__law_methods_right.nd rfl (Or.inr rfl) (pe_ix ix_tup (pv 2) (pe_cal C__law_draw (hr.mono (by decide)) (pa_cons (pv 0) (pa_cons (pe_callB call_len_seq (by rfl) m_len PySem.boot_len (pa_cons (pv 2) pa_nil)) pa_nil))) (fun _ _ => rfl)))
    (pss_cons (ps_set (i := 5) sc__law_methods_right.nd rfl (Or.inl rfl) (pe_callTy (T := "tuple") call_tuple_of (by rfl) m_tuple (by decide +kernel) (pa_cons (pe_lc (own := [("_law_name", 10)]) rfl sc__law_methods_right.nd (pi_tup (pv 1)) (blkOk_by (N := n__law_methods_right) (sc := defScope s__law_methods_right) (by decide +kernel)) (fun _ _ _ _ _ => pg_name (i := 10) sc__law_methods_right.nd rfl (Or.inl rfl)) (fun _ _ _ _ _ => pts_one (pt_cmpR op_ne (pv 10) (pe_ix (ix_tupK (K := K) rfl) (pv 4) pe_int (fun _ _ => rfl)) (nomark _))) (fun _ _ _ _ _ => (pv 10))) pa_nil)))
    (pss_cons (ps_set (i := 6) sc__law_methods_right.nd rfl (Or.inl rfl) (pe_callTy (T := "tuple") call_tuple_of (by rfl) m_tuple (by decide +kernel) (pa_cons (pe_callB (id := "sorted") (Sd.cr_sortTT (room hr)) (by rfl) m_sorted (by decide +kernel) (pa_cons (pe_op op_catT (pv 2) (pe_tup (pa_cons (pe_tup (pa_cons (pe_ix ix_tup (pv 4) pe_int (fun _ _ => rfl)) (pa_cons (pe_op op_sub pe_int (pe_ix ix_tup (pv 4) pe_int (fun _ _ => rfl))) pa_nil))) pa_nil))) pa_nil)) pa_nil)))
    (pss_cons (ps_set (i := 7) sc__law_methods_right.nd rfl (Or.inl rfl) (pe_callTy (T := "tuple") call_tuple_of (by rfl) m_tuple (by decide +kernel) (pa_cons (pe_lc (own := [("_law_literal", 12)]) (tt := tYes) rfl sc__law_methods_right.nd (pi_tup (pv 2)) (blkOk_by (N := n__law_methods_right) (sc := defScope s__law_methods_right) (by decide +kernel)) (fun _ _ _ _ _ => pg_name (i := 12) sc__law_methods_right.nd rfl (Or.inl rfl)) (fun _ _ _ _ _ => pts_nil) (fun _ _ _ _ _ => (pe_tup (pa_cons (pe_ix (ix_tupK (K := K) rfl) (pv 12) pe_int (fun _ _ => rfl)) (pa_cons (pe_op op_add (pe_ix (ix_tupK (K := K) rfl) (pv 12) pe_int (fun _ _ => rfl)) (pe_op op_mul pe_int (pe_callTy (T := "int") call_int1 (by rfl) m_int (by decide +kernel) (pa_cons (pe_cmpR (Sl.op_eqDK (K := K) rfl hr.units) (pv 12) (pv 4) (nomark _)) pa_nil)))) pa_nil))))) pa_nil)))
    (pss_cons (ps_if (PW.pt (pw_and (pt_cmpR op_gt (pe_callB call_len_seq (by rfl) m_len PySem.boot_len (pa_cons (pv 2) pa_nil)) pe_int (nomark _)) (pw_and1 (pt_not (pt_val (pe_cal C__law_is_bool (hr.mono (by decide)) (pa_cons (pe_mth M_is_valid (hr.mono (by decide)) (Mk0.pe_bare B_Bits) (pa_cons (pv 1) (pa_cons (Rt.pe_revT (pv 2)) pa_nil)) (ht := mcall_of (abase_call (by decide +kernel)) (fun _ => rfl))) (pa_cons pe_bl pa_nil))))))))
      (pss_one (ps_ret pe_bl))
      pss_nil)
    (pss_cons (ps_for PassesOwn.never rfl (pi_list (pe_lst (pa_cons (pe_tup (pa_cons (pv 5) (pa_cons (pv 2) pa_nil))) (pa_cons (pe_tup (pa_cons (pv 1) (pa_cons (pv 6) pa_nil))) (pa_cons (pe_tup (pa_cons (pv 1) (pa_cons (pv 7) pa_nil))) (pa_cons (pe_tup (pa_cons (pv 1) (pa_cons (pe_op op_catT (pv 2) (pe_tup (pa_cons (pv 4) pa_nil))) pa_nil))) pa_nil)))))) (pg_name (i := 8) sc__law_methods_right.nd rfl (Or.inl rfl))
      (pss_one (ps_if (pt_not (pt_val (pe_cal C__law_is_bool (hr.mono (by decide)) (pa_cons (pe_mth M_is_valid (hr.mono (by decide)) (Mk0.pe_bare B_Bits) (pa_cons (pe_ix ix_tup (pv 8) pe_int (fun _ _ => rfl)) (pa_cons (pe_ix ix_tup (pv 8) pe_int (fun _ _ => rfl)) pa_nil)) (ht := mcall_of (abase_call (by decide +kernel)) (fun _ => rfl))) (pa_cons pe_bl pa_nil)))))
      (pss_one (ps_ret pe_bl))
      pss_nil)))
    (pss_one (ps_ret pe_bl)))))))))))), ?_⟩
    walk_at "rd"
    refine fun k dk nk nd2 ne => ?_
    obtain ⟨u1, hk⟩ := bare_new (C := C) nk nd2 ne
    generalize upd (upd H dk (.own k)) k (.ins C dk []) = H1 at u1 hk ⊢
    refine ⟨k, dk, [], rfl, hk, rfl, ?_⟩
    walk_at "rd"
    show spNIn K _ _ _ _
    unfold spNIn
    refine ⟨k, p, c, rfl, dp_same u1 hp, by omega, fun r H2 s2 nr hr2 => ?_⟩
    have u2 := u1.trans s2
    walk_at "rd"
    obtain ⟨p', xs, ep, ht, ha⟩ := dp_tup hp
    cases ep
    have xl : xs.length = c.length := by rw [da_len ha, List.length_map]
    refine ⟨⟨_, Bx.Same.tup u2 ht⟩, fun D hD => ?_⟩
    refine lc_it walk_tup (fun i H' => Same H2 H' ∧ H' D = some (.lst (((c.take i).map (·.1)).map V.str))) ⟨same_new hD, upd_same⟩ (fun i H' _ h => Bx.Same.tup (u2.trans h.1) ht) ?_ ?_
    · rintro i v H3 H4 hi ⟨s3, hM⟩ ⟨rfl, hx⟩
      obtain ⟨l, hl, dl⟩ := da_atM ha hx
      obtain ⟨b, rfl, hb⟩ := lit_dp (dp_same (u2.trans s3) dl)
      refine ⟨rfl, ?_⟩
      walk_at "rd"
      refine ⟨_, _, _, _, rfl, rfl, hb, atI_nat (j := 0) rfl, ?_⟩
      refine ⟨_, hM, ?_, same_at hD s3, ?_⟩
      · rw [List.length_map, List.length_map]
        exact szl (Nat.lt_of_le_of_lt (List.length_take_le' i c) (by omega))
      · rw [upd_same, List.take_add_one, hl, List.map_append, List.map_append]
        rfl
    rintro H3 ⟨s3, hM⟩
    rw [xl, List.take_length] at hM
    walk_at "rd"
    refine ⟨D, _, rfl, .inl ⟨sq hM, fun t nt => ?_⟩⟩
    have s4 := same_new nt (o := .tup ((c.map (·.1)).map V.str))
    have ht4 := upd_same (H := H3) (a := t) (o := .tup ((c.map (·.1)).map V.str))
    generalize upd H3 t (.tup ((c.map (·.1)).map V.str)) = H4 at s4 ht4 ⊢
    have u4 := u2.trans (s3.trans s4)
    walk_at "rd"
    have lay1 : Lay 1 (.tuple ((c.map (·.1)).map PyData.str)) := lay_tuple (lays_strs fun s hs => (by obtain ⟨l, hl, rfl⟩ := List.mem_map.mp hs; exact oc l hl))
    refine ⟨_, _, names_dp (sqt ((s3.trans s4) _ _ hr2)), names_dp (sqt ht4), shape lay1 (by decide), shape lay1 (by decide), ?_⟩
    rw [eq_refl lay1]
    refine ⟨_, rfl, ite2 (fun h => absurd h (by decide)) (fun _ => ?_)⟩
    have b4 : SameBut src H H4 := Bx.Same.but u4
    have hA4 := src_same hA u4
    clear nk nd2 ne nr hr2 s2 s3 s4 hM ht4 u1 hk u2
    walk_at "rd"
    refine ⟨by omega, by omega, for_it walk_range (fun i σ H' => ∃ (o3 o9 o10 o11 : Option V), σ = [some (.ref src), some (.ref na), some (.ref p), o3, none, none, none, none, none, o9, o10, o11, none] ∧ SameBut src H H' ∧ Src H' src)
      ⟨none, none, none, none, rfl, b4, hA4⟩ (fun _ _ _ _ _ => trivial) ?_ ?_⟩
    · rintro i x σ H5a H5 hi ⟨o3, o9, o10, o11, rfl, s5, hA5⟩ ⟨rfl, rfl⟩
      have tk5 := tk_but (K := K) hA s5
      have hna5 := sqt_but hA s5 hna
      walk_at "rd"
      intro R nR
      have s6 := same_new nR (o := .dK [])
      have hR := upd_same (H := H5) (a := R) (o := .dK [])
      have nRs := src_ne hA5 nR
      generalize upd H5 R (.dK []) = H6 at s6 hR ⊢
      walk_at "rd"
      refine ⟨⟨_, Bx.Same.tup s6 hna5⟩, for_it (walk_tup (K := K) (a := na) (xs := ns.map V.str)) (fun j σ H' => ∃ (o10 : Option V) (l : As), σ = [some (.ref src), some (.ref na), some (.ref p), some (.int (0 + (i : Nat))), none, none, none, none, none, some (.ref R), o10, o11, none] ∧ SameBut src H H' ∧ Src H' src ∧ H' R = some (.dK (asV l)) ∧ l.map (·.1) = ns.take j)
        ⟨o10, [], rfl, s5.trans (Bx.Same.but s6), src_same hA5 s6, hR, rfl⟩ (fun j σ H' _ ⟨_, _, _, s, _⟩ => sqt_but hA s hna) ?_ ?_⟩
      · rintro j x σ H7a H7 hj ⟨o10, l, rfl, s7, hA7, hR7, el⟩ ⟨rfl, hx⟩
        obtain ⟨n, hn, rfl⟩ := at_map hx
        rw [List.length_map] at hj
        walk_at "rd"
        refine draw_of (lim := 2) hA7 (by decide) fun r8 H8 _ _ s8 hA8 => ?_
        have hR8 := s8 _ _ nRs.symm hR7
        have ll : l.length ≤ 20 := by
          have z := congrArg List.length el
          rw [List.length_map, List.length_take] at z
          omega
        have al : (asV l).length = l.length := List.length_map _
        walk_at "rd"
        refine ⟨R, _, rfl, DPut.k (k := .inr n) hR8 (szl (by omega)), ?_⟩
        have nin : n ∉ l.map (·.1) := by
          rw [el]
          intro z
          obtain ⟨m, hm, e⟩ := List.getElem_of_mem z
          rw [List.length_take] at hm
          have nd := asc_nodup asc
          rw [List.getElem_take] at e
          have h2 : ns[j]? = some n := hn
          obtain ⟨hj2, e2⟩ := List.getElem?_eq_some_iff.mp h2
          have := (List.getElem_inj (h₀ := by omega) (h₁ := hj2) nd).mp (e.trans e2.symm)
          omega
        rw [put_as nin]
        refine ⟨_, l ++ [(n, r8)], rfl, ?_, src_upd hA8 nRs, upd_same, ?_⟩
        · refine fun b o hb e => ?_
          by_cases bR : b = R
          · exact absurd (s5 _ _ (by rw [← bR]; exact hb) (bR ▸ e)) (by rw [nR]; exact fun z => nomatch z)
          · rw [upd_ne bR]
            exact (s7.trans s8) b o hb e
        · rw [List.map_append, el, List.take_add_one, hn]
          rfl
      rintro σ H7 ⟨o10, l, rfl, s7, hA7, hR7, el⟩
      rw [List.length_map, List.take_length] at el
      have ht7 := sqt_but hA s7 ht
      have kn : Kn l c := fun x hx => by rw [el]; exact (vc.2 x hx).1
      have ha7 := da_tk (tk_but hA s7) _ _ (tup_lits c) ha
      walk_at "rd"
      refine ⟨⟨_, ht7⟩, fun D hD => ?_⟩
      refine lc_it walk_tup (fun j H' => Same H7 H' ∧ ∃ us, H' D = some (.lst us) ∧ us.length = ((c.take j).filter fun x => decide (vl l x.1 = x.2)).length) ⟨same_new hD, [], upd_same, rfl⟩ (fun j H' _ h => Bx.Same.tup h.1 ht7) ?_ ?_
      · rintro j v H8a H8 hj ⟨s8, us, hM, hul⟩ ⟨rfl, hy⟩
        obtain ⟨t, ht1, dt⟩ := da_atM ha7 hy
        obtain ⟨b, rfl, hb⟩ := lit_dp (dp_same s8 dt)
        refine ⟨rfl, ?_⟩
        walk_at "rd"
        refine ⟨_, _, _, _, rfl, rfl, hb, atI_nat (j := 0) rfl, ?_⟩
        walk_at "rd"
        refine ⟨R, .int (vl l t.1), rfl, ?_, ?_⟩
        · rw [← has_as (kn t (List.mem_of_getElem? ht1))]
          exact DGet.k (k := .inr t.1) (s8 _ _ hR7)
        walk_at "rd"
        refine ⟨_, _, _, _, rfl, rfl, hb, atI_nat (j := 1) rfl, ?_⟩
        walk_at "rd"
        refine ite2 (fun h6 => ?_) (fun h6 => ?_)
        · rw [dec_int] at h6
          walk_at "rd"
          have ul : us.length ≤ 1000 := by
            rw [hul]
            exact Nat.le_trans (Nat.le_trans (List.length_filter_le _ _) (List.length_take_le' j c)) (by omega)
          refine ⟨us, hM, szl (by omega), same_at hD s8, us ++ [.ref b], upd_same, ?_⟩
          rw [take_filterA ht1, List.filter_cons, if_pos h6, List.filter_nil, List.length_append, List.length_append, hul]
          rfl
        · rw [dec_int] at h6
          rw [take_filterA ht1, List.filter_cons, if_neg h6, List.filter_nil, List.append_nil]
          exact ⟨s8, us, hM, hul⟩
      rintro H8 ⟨s8, us, hM, hul⟩
      rw [xl, List.take_length] at hul
      have eh : hold (vl l) c = decide ((0 : Int) < (us.length : Nat)) := by
        rw [hul]
        unfold hold
        rw [Bool.eq_iff_iff, List.any_eq_true, decide_eq_true_iff]
        constructor
        · rintro ⟨x, hx, e⟩
          have z := List.length_pos_of_mem ((List.mem_filter (p := fun x : Lit => decide (vl l x.1 = x.2))).mpr ⟨hx, e⟩)
          omega
        · intro z
          have z2 : 0 < (c.filter fun x => decide (vl l x.1 = x.2)).length := by omega
          obtain ⟨x, hx⟩ := List.exists_mem_of_length_pos z2
          exact ⟨x, (List.mem_filter.mp hx).1, (List.mem_filter.mp hx).2⟩
      walk_at "rd"
      refine fun k dk nk nd2 ne => ?_
      obtain ⟨u9, hk⟩ := bare_new (C := C) nk nd2 ne
      generalize upd (upd H8 dk (.own k)) k (.ins C dk []) = H9 at u9 hk ⊢
      refine ⟨k, dk, [], rfl, hk, rfl, ?_⟩
      walk_at "rd"
      have s79 := s8.trans u9
      show spHolds K _ _ _ _
      unfold spHolds
      refine ⟨k, p, R, c, l, rfl, dp_same s79 (.tup ht7 ha7), s79 _ _ hR7, kn, by omega, fun H10 s10 => ?_⟩
      have hM10 := s10 _ _ (u9 _ _ hM)
      walk_at "rd"
      refine ⟨D, _, rfl, .inl (sq hM10), ?_⟩
      walk_at "rd"
      show spIsB _ _ _ _
      unfold spIsB
      refine ⟨_, _, rfl, ?_⟩
      rw [decide_eq_true eh]
      walk_at "rd"
      refine ite2 (fun h => absurd h (by decide)) (fun _ => ?_)
      walk_at "rd"
      exact ⟨_, _, _, _, rfl, s7.trans (Bx.Same.but (s79.trans s10)), src_same hA7 (s79.trans s10)⟩
    rintro σ H5 ⟨o3, o9, o10, o11, rfl, s5, hA5⟩
    clear b4 hA4 u4
    have hna5 := sqt_but hA s5 hna
    have hp5 := dp_tk (tk_but hA s5) _ _ (show tupD (clD c) = true from tup_lits c) hp
    clear ht ha
    walk_at "rd"
    -- valid
    refine fun k dk nk nd2 ne => ?_
    obtain ⟨u6, hk⟩ := bare_new (C := C) nk nd2 ne
    generalize upd (upd H5 dk (.own k)) k (.ins C dk []) = H6 at u6 hk ⊢
    refine ⟨k, dk, [], rfl, hk, rfl, ?_⟩
    walk_at "rd"
    show spSV K C _ _ _ _
    unfold spSV
    refine ⟨k, dk, na, p, [], ns, c, rfl, hk, rfl, Bx.Same.tup u6 hna5, dp_same u6 hp5, by omega, oc, fun H7 s7 => ?_⟩
    walk_at "rd"
    show spIsB _ _ _ _
    unfold spIsB
    refine ⟨_, _, rfl, ?_⟩
    rw [ok_vc vc, decide_eq_true rfl]
    refine ⟨_, rfl, ?_⟩
    refine ite2 (fun h => absurd h (by decide)) (fun _ => ?_)
    have u7 := u6.trans s7
    have s07 := s5.trans (Bx.Same.but u7)
    have hA7 := src_same hA5 u7
    clear nk nd2 ne hk u6 s7
    obtain ⟨p', xs, ep, ht, ha⟩ := dp_tup (dp_same u7 hp5)
    cases ep
    have xl : xs.length = c.length := by rw [da_len ha, List.length_map]
    walk_at "rd"
    refine ⟨p, _, rfl, .inr ht, ?_⟩
    walk_at "rd"
    refine ite2 (fun _ => ?_) (fun h6 => ?_)
    · walk_at "rd"
      exact q H7 s07 hA7
    have c0 : 0 < xs.length := by
      rcases Nat.eq_zero_or_pos xs.length with z | z
      · exact absurd (show decide (V.int (xs.length : Nat) = V.int 0) = true by rw [z]; rfl) h6
      · exact z
    walk_at "rd"
    refine ⟨p, _, rfl, .inr ht, ?_⟩
    refine draw_of hA7 ⟨by omega, by omega⟩ fun r8 H8 h80 h81 s8 hA8 => ?_
    obtain ⟨m, rfl⟩ := Int.eq_ofNat_of_zero_le h80
    have hm : m < xs.length := by omega
    have ev := List.getElem?_eq_getElem hm
    have tk8 := tk_but (K := K) hA7 s8
    have ht8 := sqt_but hA7 s8 ht
    have ha8 := da_tk tk8 _ _ (tup_lits c) ha
    obtain ⟨⟨gn, gk⟩, hg1, dg⟩ := da_atM ha8 ev
    have gm : ((gn, gk) : Lit) ∈ c := List.mem_of_getElem? hg1
    obtain ⟨g, eg, hg⟩ := lit_dp dg
    rw [eg] at dg ev
    refine ⟨_, _, _, _, rfl, rfl, ht8, atI_nat ev, ?_⟩
    have s08 := s07.trans s8
    have hna8 := sqt_but hA s08 hna
    clear ht ha s8 tk8 hA7 s07 u7 hp5 hna5 hA5 s5
    walk_at "rd"
    -- fewer names
    refine ⟨⟨_, hna8⟩, fun D hD => ?_⟩
    refine lc_it walk_tup (fun i H' => Same H8 H' ∧ H' D = some (.lst (((ns.take i).filter fun z => decide (z ≠ gn)).map V.str))) ⟨same_new hD, upd_same⟩ (fun i H' _ h => Bx.Same.tup h.1 hna8) ?_ ?_
    · rintro i v H9a H9 hi ⟨s9, hM⟩ ⟨rfl, hx⟩
      obtain ⟨n, hn, rfl⟩ := at_map hx
      refine ⟨rfl, ?_⟩
      walk_at "rd"
      refine ⟨_, _, _, _, rfl, rfl, Bx.Same.tup s9 hg, atI_nat (j := 0) rfl, ?_⟩
      walk_at "rd"
      rw [ne_name]
      refine ite2 (fun h6 => ?_) (fun h6 => ?_)
      · walk_at "rd"
        refine ⟨_, hM, ?_, same_at hD s9, ?_⟩
        · rw [List.length_map]
          exact szl (Nat.lt_of_le_of_lt (Nat.le_trans (List.length_filter_le _ _) (List.length_take_le' i ns)) (by omega))
        · rw [upd_same, take_filterA hn, List.filter_cons, if_pos h6, List.filter_nil, List.map_append]
          rfl
      · rw [take_filterA hn, List.filter_cons, if_neg h6, List.filter_nil, List.append_nil]
        exact ⟨s9, hM⟩
    rintro H9 ⟨s9, hM⟩
    rw [List.length_map, List.take_length] at hM
    walk_at "rd"
    refine ⟨D, _, rfl, .inl ⟨sq hM, fun fw nf => ?_⟩⟩
    have s10 := same_new nf (o := .tup ((ns.filter fun z => decide (z ≠ gn)).map V.str))
    have hf10 := upd_same (H := H9) (a := fw) (o := .tup ((ns.filter fun z => decide (z ≠ gn)).map V.str))
    generalize upd H9 fw (.tup ((ns.filter fun z => decide (z ≠ gn)).map V.str)) = H10 at s10 hf10 ⊢
    have u10 := s9.trans s10
    clear s9 s10 hM hD nf
    have hg10 := Bx.Same.tup u10 hg
    walk_at "rd"
    -- the name twice
    refine ⟨_, _, _, _, rfl, rfl, hg10, atI_nat (j := 0) rfl, ?_⟩
    walk_at "rd"
    refine ⟨_, _, _, _, rfl, rfl, hg10, atI_nat (j := 1) rfl, ?_⟩
    walk_at "rd"
    refine ⟨sz (by show 2 ≤ 100000; decide), fun T nT => ?_⟩
    have sT := same_new nT (o := .tup [.str gn, .int (1 - gk)])
    have hT : Dp K (upd H10 T (.tup [.str gn, .int (1 - gk)])) (.ref T) (litD (gn, 1 - gk)) := dp_lit (l := (gn, 1 - gk)) (sqt upd_same)
    generalize upd H10 T (.tup [.str gn, .int (1 - gk)]) = H11 at sT hT ⊢
    refine ⟨sz (by show 1 ≤ 100000; decide), fun U nU => ?_⟩
    have sU := same_new nU (o := .tup [.ref T])
    have hU := upd_same (H := H11) (a := U) (o := .tup [.ref T])
    have hT2 := dp_same sU hT
    generalize upd H11 U (.tup [.ref T]) = H12 at sU hU hT2 ⊢
    have u12 := u10.trans (sT.trans sU)
    have x0 : xs ≠ [] := fun z => by rw [z] at c0; exact absurd c0 (by decide)
    refine ⟨p, U, xs, [.ref T], rfl, rfl, Bx.Same.tup u12 ht8, sqt hU, x0, sz (by show xs.length + 1 ≤ 100000; omega), fun z => (by cases z), fun _ W nW => ?_⟩
    have sW := same_new nW (o := .tup (xs ++ [.ref T]))
    have hW := upd_same (H := H12) (a := W) (o := .tup (xs ++ [.ref T]))
    have dW : DpAll K (upd H12 W (.tup (xs ++ [.ref T]))) (xs ++ [.ref T]) ((c ++ [((gn, 1 - gk) : Lit)]).map litD) := by
      rw [List.map_append]
      exact da_app (dpAll_same (u12.trans sW) ha8) (da_one (dp_same sW hT2))
    have u13 := u12.trans sW
    have hf13 := (sT.trans (sU.trans sW)) _ _ hf10
    generalize upd H12 W (.tup (xs ++ [.ref T])) = H13 at hW dW u13 hf13 ⊢
    generalize xs ++ [V.ref T] = ws at hW dW
    clear sT sU hT hT2 hU sW u10 u12
    have okE : OkC (c ++ [((gn, 1 - gk) : Lit)]) := fun l hl => by
      rcases List.mem_append.mp hl with h | h
      · exact oc l h
      · rw [List.mem_singleton.mp h]
        exact oc (gn, gk) gm
    have lE : (c ++ [((gn, 1 - gk) : Lit)]).length ≤ 21 := by
      rw [List.length_append]
      show c.length + 1 ≤ 21
      omega
    walk_at "rd"
    refine ⟨W, ws, (c ++ [((gn, 1 - gk) : Lit)]).map litD, rfl, sqt hW, dW, all_alike alike_lit _, fun e he => (by obtain ⟨l, _, rfl⟩ := List.mem_map.mp he; exact ⟨⟨_, rfl⟩, rfl⟩), by rw [List.length_map]; exact sz (by omega), fun e he => (by obtain ⟨l, _, rfl⟩ := List.mem_map.mp he; show 1 ≤ 60; decide), fun zs R nR dR => ?_⟩
    have pm := List.mergeSort_perm ((c ++ [((gn, 1 - gk) : Lit)]).map litD) So.dle
    obtain ⟨tw, etw⟩ := unmap (f := litD) (l := ((c ++ [((gn, 1 - gk) : Lit)]).map litD).mergeSort So.dle) fun d hd => (by obtain ⟨l, _, e⟩ := List.mem_map.mp (pm.mem_iff.mp hd); exact ⟨l, e⟩)
    rw [etw] at dR pm
    have pe : tw.Perm (c ++ [((gn, 1 - gk) : Lit)]) := perm_unmap (fun x y e => lit_inj e) pm
    have sR := same_new nR (o := .lst zs)
    have hR := upd_same (H := H13) (a := R) (o := .lst zs)
    have dR2 := dpAll_same sR dR
    generalize upd H13 R (.lst zs) = H14 at sR hR dR2 ⊢
    walk_at "rd"
    refine ⟨R, _, rfl, .inl ⟨sq hR, fun t1 nt => ?_⟩⟩
    have st := same_new nt (o := .tup zs)
    have d1 : Dp K (upd H14 t1 (.tup zs)) (.ref t1) (clD tw) := .tup (sqt upd_same) (dpAll_same st dR2)
    have u15 := u13.trans (sR.trans st)
    have hf15 := (sR.trans st) _ _ hf13
    generalize upd H14 t1 (.tup zs) = H15 at d1 u15 hf15 ⊢
    clear sR st hR dR2 dR hW dW u13 nR nt
    have okT : OkC tw := fun l hl => okE l (pe.mem_iff.mp hl)
    have lT : tw.length ≤ 21 := by rw [pe.length_eq]; exact lE
    have bT : okCl ns tw = false := no_twice gm pe rfl
    walk_at "rd"
    -- a wrong sign
    have ht15 := Bx.Same.tup u15 ht8
    have ha15 := dpAll_same u15 ha8
    have dg15 := dp_same u15 dg
    have okg : OkC [(gn, gk)] := fun l hl => by rw [List.mem_singleton.mp hl]; exact oc (gn, gk) gm
    refine ⟨⟨_, ht15⟩, fun D hD => ?_⟩
    refine lc_it walk_tup (fun i H' => Same H15 H' ∧ ∃ us, H' D = some (.lst us) ∧ DpAll K H' us (((c.take i).map (wr (gn, gk))).map litD)) ⟨same_new hD, [], upd_same, .nil⟩ (fun i H' _ h => Bx.Same.tup h.1 ht15) ?_ ?_
    · rintro i v H16a H16 hi ⟨s16, us, hM, hus⟩ ⟨rfl, hx⟩
      obtain ⟨l, hl, dl⟩ := da_atM ha15 hx
      have dl16 := dp_same s16 dl
      obtain ⟨b, rfl, hb⟩ := lit_dp dl16
      refine ⟨rfl, ?_⟩
      walk_at "rd"
      refine ⟨_, _, _, _, rfl, rfl, hb, atI_nat (j := 0) rfl, ?_⟩
      walk_at "rd"
      refine ⟨_, _, _, _, rfl, rfl, hb, atI_nat (j := 1) rfl, ?_⟩
      walk_at "rd"
      refine ⟨litD l, litD (gn, gk), dl16, dp_same s16 dg15, sh_lit (oc l (List.mem_of_getElem? hl)), sh_lit (oc (gn, gk) gm), ?_⟩
      rw [eqv_lit]
      refine .inr ⟨_, rfl, ?_⟩
      walk_at "rd"
      refine ⟨.inl ⟨by decide, by decide⟩, ?_⟩
      walk_at "rd"
      refine ⟨sz (by show 2 ≤ 100000; decide), fun T nT => ?_⟩
      have sT := same_new nT (o := .tup [.str l.1, .int (l.2 + 2 * (if decide (l = (gn, gk)) = true then 1 else 0))])
      have hT : Dp K (upd H16 T (.tup [.str l.1, .int (l.2 + 2 * (if decide (l = (gn, gk)) = true then 1 else 0))])) (.ref T) (litD (wr (gn, gk) l)) := dp_lit (l := wr (gn, gk) l) (sqt upd_same)
      generalize upd H16 T (.tup [.str l.1, .int (l.2 + 2 * (if decide (l = (gn, gk)) = true then 1 else 0))]) = H17 at sT hT ⊢
      have hM17 := sT _ _ hM
      have ul : us.length ≤ 20 := by
        rw [da_len hus, List.length_map, List.length_map]
        exact Nat.le_trans (List.length_take_le' i c) lc
      have tk := tk_lst (K := K) (o := .lst (us ++ [.ref T])) hM17
      refine ⟨us, hM17, szl (by omega), same_at hD (s16.trans sT), us ++ [.ref T], upd_same, ?_⟩
      rw [List.take_add_one, hl, List.map_append, List.map_append]
      exact da_app (da_tk tk _ _ (tup_lits _) (dpAll_same sT hus)) (da_one (dp_tk tk _ _ rfl hT))
    rintro H16 ⟨s16, us, hM, hus⟩
    rw [xl, List.take_length] at hus
    walk_at "rd"
    refine ⟨D, _, rfl, .inl ⟨sq hM, fun t2 nt => ?_⟩⟩
    have st := same_new nt (o := .tup us)
    have d2 : Dp K (upd H16 t2 (.tup us)) (.ref t2) (clD (c.map (wr (gn, gk)))) := .tup (sqt upd_same) (dpAll_same st hus)
    have u1517 := s16.trans st
    have u17 := u15.trans u1517
    have hf17 := u1517 _ _ hf15
    generalize upd H16 t2 (.tup us) = H17 at d2 u1517 u17 hf17 ⊢
    have d1 := dp_same u1517 d1
    clear st s16 hM hus hD nt u1517
    have okW : OkC (c.map (wr (gn, gk))) := fun l hl => by
      obtain ⟨x, hx, rfl⟩ := List.mem_map.mp hl
      exact oc x hx
    have bW : okCl ns (c.map (wr (gn, gk))) = false := no_sign vc gm
    have hna17 := Bx.Same.tup u17 hna8
    have hp17 : Dp K H17 (.ref p) (clD c) := .tup (Bx.Same.tup u17 ht8) (dpAll_same u17 ha8)
    -- the clause turned round
    dsimp only [gName]
    refine st_co (fun H' => Same H17 H') (fun D' hD' => ?_) ?_
    · walk_at "rd"
      refine ⟨p, _, rfl, .inr (Bx.Same.tup u17 ht8), ?_⟩
      walk_at "rd"
      refine ite2 (fun h6 => ?_) (fun _ => ?_)
      · have h1 : 1 < c.length := by
          have z : (1 : Int) < (xs.length : Nat) := of_decide_eq_true h6
          omega
        walk_at "rd"
        refine fun k dk nk nd2 ne => ?_
        obtain ⟨u18, hk⟩ := bare_new (C := C) nk nd2 ne
        generalize upd (upd H17 dk (.own k)) k (.ins C dk []) = H18 at u18 hk ⊢
        refine ⟨k, dk, [], rfl, hk, rfl, ?_⟩
        walk_at "rd"
        refine ⟨p, xs, rfl, Bx.Same.tup (u17.trans u18) ht8, fun R nR => ?_⟩
        have sR := same_new nR (o := .tup xs.reverse)
        have hR : Dp K (upd H18 R (.tup xs.reverse)) (.ref R) (clD c.reverse) := by
          refine .tup (sqt upd_same) ?_
          rw [List.map_reverse]
          exact da_rev (dpAll_same (u17.trans (u18.trans sR)) ha8)
        generalize upd H18 R (.tup xs.reverse) = H19 at sR hR ⊢
        walk_at "rd"
        have u19 := u18.trans sR
        refine ⟨k, dk, na, R, [], ns, c.reverse, rfl, sR _ _ hk, rfl, Bx.Same.tup u19 hna17, hR, by rw [List.length_reverse]; omega, fun l hl => oc l (List.mem_reverse.mp hl), fun H20 s20 => ?_⟩
        walk_at "rd"
        refine ⟨_, _, rfl, ?_⟩
        rw [no_rev vc h1, decide_eq_true rfl]
        refine ⟨_, rfl, ?_⟩
        refine ite2 (fun h => absurd h (by decide)) (fun _ => ?_)
        exact hD' H20 (u19.trans s20)
      · exact hD' H17 (Same.refl H17)
    intro H18 s18
    have u18 := u17.trans s18
    have e1 := dp_same s18 d1
    have e2 := dp_same s18 d2
    have hna18 := Bx.Same.tup s18 hna17
    have hp18 := dp_same s18 hp17
    have hf18 := s18 _ _ hf17
    have b1 : okCl (ns.filter fun z => decide (z ≠ gn)) c = false := no_name gm
    walk_at "rd"
    refine ⟨sz (by show 2 ≤ 100000; decide), fun A1 n1 => ?_⟩
    have v1 := same_new n1 (o := .tup [.ref fw, .ref p])
    have hA1 := upd_same (H := H18) (a := A1) (o := .tup [.ref fw, .ref p])
    have B1 : Bad K (upd H18 A1 (.tup [.ref fw, .ref p])) (.ref A1) := ⟨A1, fw, p, _, c, rfl, sqt hA1, sqt (v1 _ _ hf18), dp_same v1 hp18, oc, by omega, b1⟩
    generalize upd H18 A1 (.tup [.ref fw, .ref p]) = H19 at v1 B1 ⊢
    clear hA1
    walk_at "rd"
    refine ⟨sz (by show 2 ≤ 100000; decide), fun A2 n2 => ?_⟩
    have v2 := same_new n2 (o := .tup [.ref na, .ref t1])
    have hA2 := upd_same (H := H19) (a := A2) (o := .tup [.ref na, .ref t1])
    have B2 : Bad K (upd H19 A2 (.tup [.ref na, .ref t1])) (.ref A2) := ⟨A2, na, t1, ns, tw, rfl, sqt hA2, Bx.Same.tup (v1.trans v2) hna18, dp_same (v1.trans v2) e1, okT, by omega, bT⟩
    have v12 := v1.trans v2
    have B1 := B1.same v2
    generalize upd H19 A2 (.tup [.ref na, .ref t1]) = H20 at v12 B1 B2 ⊢
    clear hA2 v2 v1
    walk_at "rd"
    refine ⟨sz (by show 2 ≤ 100000; decide), fun A3 n3 => ?_⟩
    have v3 := same_new n3 (o := .tup [.ref na, .ref t2])
    have hA3 := upd_same (H := H20) (a := A3) (o := .tup [.ref na, .ref t2])
    have B3 : Bad K (upd H20 A3 (.tup [.ref na, .ref t2])) (.ref A3) := ⟨A3, na, t2, ns, c.map (wr (gn, gk)), rfl, sqt hA3, Bx.Same.tup (v12.trans v3) hna18, dp_same (v12.trans v3) e2, okW, by rw [List.length_map]; omega, bW⟩
    have v13 := v12.trans v3
    have B1 := B1.same v3
    have B2 := B2.same v3
    generalize upd H20 A3 (.tup [.ref na, .ref t2]) = H21 at v13 B1 B2 B3 ⊢
    clear hA3 v3 v12
    walk_at "rd"
    refine ⟨sz (by show 1 ≤ 100000; decide), fun U2 nU2 => ?_⟩
    have vU := same_new nU2 (o := .tup [.ref g])
    have hU2 := upd_same (H := H21) (a := U2) (o := .tup [.ref g])
    have B1 := B1.same vU
    have B2 := B2.same vU
    have B3 := B3.same vU
    have v1U := v13.trans vU
    generalize upd H21 U2 (.tup [.ref g]) = H22 at v1U hU2 B1 B2 B3 ⊢
    clear v13 vU
    have u22 := u18.trans v1U
    refine ⟨p, U2, xs, [.ref g], rfl, rfl, Bx.Same.tup u22 ht8, sqt hU2, x0, sz (by show xs.length + 1 ≤ 100000; omega), fun z => (by cases z), fun _ W2 nW2 => ?_⟩
    have vW := same_new nW2 (o := .tup (xs ++ [.ref g]))
    have dW2 : Dp K (upd H22 W2 (.tup (xs ++ [.ref g]))) (.ref W2) (clD (c ++ [((gn, gk) : Lit)])) := by
      refine .tup (sqt upd_same) ?_
      rw [List.map_append]
      exact da_app (dpAll_same (u22.trans vW) ha8) (da_one (dp_same (u22.trans vW) dg))
    have B1 := B1.same vW
    have B2 := B2.same vW
    have B3 := B3.same vW
    have v1W := v1U.trans vW
    generalize upd H22 W2 (.tup (xs ++ [.ref g])) = H23 at v1W dW2 B1 B2 B3 ⊢
    clear vW v1U hU2 u22
    refine ⟨sz (by show 2 ≤ 100000; decide), fun A4 n4 => ?_⟩
    have v4 := same_new n4 (o := .tup [.ref na, .ref W2])
    have hA4 := upd_same (H := H23) (a := A4) (o := .tup [.ref na, .ref W2])
    have okX : OkC (c ++ [((gn, gk) : Lit)]) := fun l hl => (List.mem_append.mp hl).elim (oc l) (okg l)
    have B4 : Bad K (upd H23 A4 (.tup [.ref na, .ref W2])) (.ref A4) := ⟨A4, na, W2, ns, c ++ [((gn, gk) : Lit)], rfl, sqt hA4, Bx.Same.tup (v1W.trans v4) hna18, dp_same v4 dW2, okX, by rw [List.length_append]; show c.length + 1 ≤ 1000; omega, no_twice gm (List.Perm.refl _) rfl⟩
    have B1 := B1.same v4
    have B2 := B2.same v4
    have B3 := B3.same v4
    have v14 := v1W.trans v4
    generalize upd H23 A4 (.tup [.ref na, .ref W2]) = H24 at v14 B1 B2 B3 B4 ⊢
    clear hA4 v4 v1W
    refine ⟨sz (by show 4 ≤ 100000; decide), fun L nL => ?_⟩
    have vL := same_new nL (o := .lst [.ref A1, .ref A2, .ref A3, .ref A4])
    have hL := upd_same (H := H24) (a := L) (o := .lst [.ref A1, .ref A2, .ref A3, .ref A4])
    have BL : ∀ v ∈ [V.ref A1, .ref A2, .ref A3, .ref A4], Bad K (upd H24 L (.lst [.ref A1, .ref A2, .ref A3, .ref A4])) v := by
      intro v hv
      rcases List.mem_cons.mp hv with rfl | hv
      · exact B1.same vL
      rcases List.mem_cons.mp hv with rfl | hv
      · exact B2.same vL
      rcases List.mem_cons.mp hv with rfl | hv
      · exact B3.same vL
      rcases List.mem_cons.mp hv with rfl | hv
      · exact B4.same vL
      cases hv
    have v1L := v14.trans vL
    generalize upd H24 L (.lst [.ref A1, .ref A2, .ref A3, .ref A4]) = H25 at v1L hL BL ⊢
    generalize [V.ref A1, .ref A2, .ref A3, .ref A4] = bs at hL BL
    clear B1 B2 B3 B4 vL v14
    refine ⟨L, rfl, ⟨_, sq hL⟩, for_it (walk_list (K := K) (a := L) (xs := bs)) (fun j σ H' => ∃ o8 : Option V, σ = [some (.ref src), some (.ref na), some (.ref p), o3, some (.ref g), some (.ref fw), some (.ref t1), some (.ref t2), o8, o9, o10, o11, none] ∧ Same H25 H') ⟨none, rfl, Same.refl H25⟩ (fun j σ H' _ ⟨_, _, s⟩ => sq (s _ _ hL)) ?_ ?_⟩
    · rintro j x σ H26a H26 hj ⟨o8, rfl, s26⟩ ⟨rfl, hx⟩
      obtain ⟨T, a, b, ms, d, rfl, h1, h2, h3, h4, h5, h6⟩ := (BL x (List.mem_of_getElem? hx)).same s26
      walk_at "rd"
      refine fun k dk nk nd2 ne => ?_
      obtain ⟨u27, hk⟩ := bare_new (C := C) nk nd2 ne
      generalize upd (upd H26 dk (.own k)) k (.ins C dk []) = H27 at u27 hk ⊢
      refine ⟨k, dk, [], rfl, hk, rfl, ?_⟩
      walk_at "rd"
      have h17 := Bx.Same.tup u27 h1
      refine ⟨_, _, _, _, rfl, rfl, h17, atI_nat (j := 0) rfl, ?_⟩
      walk_at "rd"
      refine ⟨_, _, _, _, rfl, rfl, h17, atI_nat (j := 1) rfl, ?_⟩
      walk_at "rd"
      refine ⟨k, dk, a, b, [], ms, d, rfl, hk, rfl, Bx.Same.tup u27 h2, dp_same u27 h3, h5, h4, fun H28 s28 => ?_⟩
      walk_at "rd"
      refine ⟨_, _, rfl, ?_⟩
      rw [h6, decide_eq_true rfl]
      refine ⟨_, rfl, ?_⟩
      refine ite2 (fun h => absurd h (by decide)) (fun _ => ?_)
      exact ⟨_, rfl, s26.trans (u27.trans s28)⟩
    · rintro σ H26 ⟨o8, rfl, s26⟩
      walk_at "rd"
      exact q H26 (s08.trans (Bx.Same.but (u18.trans (v1L.trans s26)))) (src_same hA8 (u18.trans (v1L.trans s26)))
end
end K08
namespace K08
local macro_rules | `(tactic| walk_at "rd") => `(tactic| repeat (first | refine ⟨rfl, ?_⟩ | refine ⟨_, rfl, ?_⟩ | refine ⟨_, _, rfl, rfl, ?_⟩ | refine ⟨⟨_, rfl⟩, ?_⟩))
open PySem PySem.Spec PyProof.Rows L2 Bx TL Dx Zx Ow Sup NdefX Px
section
variable {P : Program} {w : World} {K : PySem.W.Frag} {mg : Str → Option Value} {base : Heap}
theorem der_in {ns : List Str} {cs bs : List Cl} {ln : Ln} {c : Cl} (vc : ∀ c ∈ cs, Vc ns c) (vb : ∀ c ∈ bs, Vc ns c) (h : Der cs bs ln (some c)) : Vc ns c := der_vc vc vb h
theorem run_ok {ns : List Str} {cs : List Cl} (vc : ∀ c ∈ cs, Vc ns c) : ∀ {bs : List Cl} {lns : List Ln} {r : Option (List Cl)}, Run cs bs lns r → (∀ c ∈ bs, Vc ns c) → ∀ ds, r = some ds → ∀ c ∈ ds, Vc ns c := by
  intro bs lns r h
  induction h with
  | done bs =>
    intro vb ds e
    cases e
    exact vb
  | stop d =>
    intro vb ds e
    cases e
  | step d _ ih =>
    intro vb ds e
    refine ih (fun c hc => ?_) ds e
    rcases List.mem_append.mp hc with h | h
    · exact vb c h
    · rw [List.mem_singleton.mp h]
      exact der_vc vc vb d
def spLaw (K : PySem.W.Frag) : Sp := fun vs H Q _ => ∃ (a : Addr) (ns : List Int), vs = [.ref a] ∧ SqL K H a (ns.map V.int) ∧ ns.length ≤ 63 ∧ ∀ H', Q (.bl true) H'
set_option maxHeartbeats 4000000 in
theorem ok_law {f : Addr} {fd : FuncData} (F : Fun K "law" "law" s_law f fd) (m_tuple : mg "tuple" = none) (m_isinstance : mg "isinstance" = none)
    (C__law_source : Cal P w K mg base "_law_source" 1 ["_law_script", "_law_k"] (spSource K)) (C__law_names : Cal P w K mg base "_law_names" 2 ["_law_source_here", "_law_most"] (spNames K)) (C__law_clauses : Cal P w K mg base "_law_clauses" 3 ["_law_source_here", "_law_names_here"] (spClauses K)) (C__law_least_right : Cal P w K mg base "_law_least_right" 4 ["_law_clauses_here"] (spLeastR K)) (C__law_pairs_right : Cal P w K mg base "_law_pairs_right" 3 ["_law_source_here", "_law_names_here"] (spPairs K))
    (C__law_steps : Cal P w K mg base "_law_steps" 3 ["_law_source_here", "_law_names_here", "_law_clauses_here"] (spSteps K)) (C__law_spoilt : Cal P w K mg base "_law_spoilt" 2 ["_law_source_here", "_law_names_here", "_law_clauses_here", "_law_steps_here"] (spSpoilt K)) (C__law_replayed : Cal P w K mg base "_law_replayed" 3 ["_law_clauses_here", "_law_steps_here"] (spRep K)) (C_derive_lines : Cal P w K mg base "derive_lines" 3 ["clauses", "certificate"] (spRun K)) (C__law_methods_right : Cal P w K mg base "_law_methods_right" 6 ["_law_source_here", "_law_names_here", "_law_clause_here"] (spMeth K)) :
    FnOk P w K mg base CX0 8 f fd ["_law_script"] (spLaw K) := by
  refine F.ok sc_law (fun vs H Q E h => ?_) (fun cdv A outer s H vs Q E hr h => ?_)
  · unfold spLaw at h
    obtain ⟨a, ns, rfl, _⟩ := h
    rfl
  · unfold spLaw at h
    obtain ⟨sa, sc, rfl, hs, hsl, q⟩ := h
    refine ⟨_, (pss_cons (ps_set (i := 1) sc_law.nd rfl (Or.inl rfl) (pe_cal C__law_source (hr.mono (by decide)) (pa_cons (pv 0) (pa_cons pe_int pa_nil))))
    (pss_cons (ps_set (i := 2) sc_law.nd rfl (Or.inl rfl) (pe_cal C__law_names (hr.mono (by decide)) (pa_cons (pv 1) (pa_cons pe_int pa_nil))))
    (pss_cons (ps_set (i := 3) sc_law.nd rfl (Or.inl rfl) (pe_cal C__law_clauses (hr.mono (by decide)) (pa_cons (pv 1) (pa_cons (pv 2) pa_nil))))
    (pss_cons (ps_if (PW.pt (pw_or (pt_not (pt_val (pe_cal C__law_least_right (hr.mono (by decide)) (pa_cons (pv 3) pa_nil)))) (pw_or1 (pt_not (pt_val (pe_cal C__law_pairs_right (hr.mono (by decide)) (pa_cons (pe_cal C__law_source (hr.mono (by decide)) (pa_cons (pv 0) (pa_cons pe_int pa_nil))) (pa_cons (pv 2) pa_nil))))))))
      (pss_one (ps_ret pe_bl))
      pss_nil)
    (pss_cons (ps_set (i := 1) sc_law.nd rfl (Or.inl rfl) (pe_cal C__law_source (hr.mono (by decide)) (pa_cons (pv 0) (pa_cons pe_int pa_nil))))
    (pss_cons (ps_set (i := 4) sc_law.nd rfl (Or.inl rfl) (pe_cal C__law_spoilt (hr.mono (by decide)) (pa_cons (pv 1) (pa_cons (pv 2) (pa_cons (pv 3) (pa_cons (pe_cal C__law_steps (hr.mono (by decide)) (pa_cons (pv 1) (pa_cons (pv 2) (pa_cons (pv 3) pa_nil)))) pa_nil))))))
    (pss_cons (ps_set (i := 5) sc_law.nd rfl (Or.inl rfl) (pe_cal C__law_replayed (hr.mono (by decide)) (pa_cons (pv 3) (pa_cons (pv 4) pa_nil))))
    (pss_cons (ps_set (i := 6) sc_law.nd rfl (Or.inl rfl) (pe_cal C_derive_lines (hr.mono (by decide)) (pa_cons (pe_callTy (T := "tuple") call_tuple_of (by rfl) m_tuple (by decide +kernel) (pa_cons (pv 3) pa_nil)) (pa_cons (pe_callTy (T := "tuple") call_tuple_of (by rfl) m_tuple (by decide +kernel) (pa_cons (pv 4) pa_nil)) pa_nil))))
    (pss_cons (ps_if (PW.pt (pw_and (pt_cmpR op_isN (pv 5) pe_non (nomark _)) (pw_and1 (pt_cmpR op_notN (pv 6) pe_non (nomark _)))))
      (pss_one (ps_ret pe_bl))
      pss_nil)
    (pss_cons (ps_if (PW.pt (pw_and (pt_cmpR op_notN (pv 5) pe_non (nomark _)) (pw_and1 (PW.pt (pw_or (pt_not (pt_val (pe_callB (id := "isinstance") call_isi (by rfl) m_isinstance (by decide +kernel) (pa_cons (pv 6) (pa_cons (pe_bltn (v := .ty "tuple") (by rfl) m_tuple (by decide +kernel) rfl) pa_nil))))) (pw_or1 (pt_cmpR (op_neD hr.units) (pv 6) (pv 5) (nomark _))))))))
      (pss_one (ps_ret pe_bl))
      pss_nil)
    (pss_cons (ps_for PassesOwn.never rfl (pi_list (pv 3)) (pg_name (i := 7) sc_law.nd rfl (Or.inl rfl))
      (pss_one (ps_if (pt_not (pt_val (pe_cal C__law_methods_right (hr.mono (by decide)) (pa_cons (pv 1) (pa_cons (pv 2) (pa_cons (pv 7) pa_nil))))))
      (pss_one (ps_ret pe_bl))
      pss_nil)))
    (pss_one (ps_ret pe_bl))))))))))))), ?_⟩
    walk_at "rd"
    refine ⟨sa, sc, 0, rfl, hs, by decide, fun s0 n0 c0 ns0 => ?_⟩
    have u0 := same_new ns0 (o := .lst [.int n0, .int c0])
    have hA0 : Src (upd H s0 (.lst [.int n0, .int c0])) s0 := ⟨n0, c0, upd_same⟩
    have hs0 : SqL K (upd H s0 (.lst [.int n0, .int c0])) sa (sc.map V.int) := Same.seq u0 hs
    generalize upd H s0 (.lst [.int n0, .int c0]) = H0 at u0 hA0 hs0 ⊢
    walk_at "rd"
    show spNames K _ _ _ _
    unfold spNames
    refine ⟨s0, 5, rfl, hA0, by decide, fun na ns H1 b1 hA1 hna asc tx nl => ?_⟩
    walk_at "rd"
    show spClauses K _ _ _ _
    unfold spClauses
    refine ⟨s0, na, ns, rfl, hA1, hna, asc, by omega, fun p xs cs H2 b2 hA2 np hp hd lc vc => ?_⟩
    have u2 : Same H H2 := Bx.SameBut.same u0 ns0 (b1.trans b2)
    have xl : xs.length = cs.length := by rw [da_len hd, List.length_map]
    have ok20 : ∀ d ∈ cs, OkC d ∧ d.length ≤ 20 := fun d hd => vc_ok tx (by omega) (vc d hd)
    have hna2 := sqt_but hA1 b2 hna
    walk_at "rd"
    show spLeastR K _ _ _ _
    unfold spLeastR
    refine ⟨p, xs, cs, rfl, hp, hd, fun d hd => ⟨(ok20 d hd).1, by have := (ok20 d hd).2; omega⟩, by omega, fun H3 s3 => ?_⟩
    walk_at "rd"
    refine ⟨sa, sc, 1, rfl, Same.seq (u2.trans s3) hs, by decide, fun s1 n1 c1 ns1 => ?_⟩
    have u4 := same_new ns1 (o := .lst [.int n1, .int c1])
    have hA4 : Src (upd H3 s1 (.lst [.int n1, .int c1])) s1 := ⟨n1, c1, upd_same⟩
    generalize upd H3 s1 (.lst [.int n1, .int c1]) = H4 at u4 hA4 ⊢
    walk_at "rd"
    show spPairs K _ _ _ _
    unfold spPairs
    refine ⟨s1, na, ns, rfl, hA4, Bx.Same.tup (s3.trans u4) hna2, asc, tx, by omega, fun H5 b5 hA5 => ?_⟩
    have s25 : Same H2 H5 := s3.trans (Bx.SameBut.same u4 ns1 b5)
    walk_at "rd"
    refine ⟨sa, sc, 2, rfl, Same.seq (u2.trans s25) hs, by decide, fun s2 n2 c2 ns2 => ?_⟩
    have u6 := same_new ns2 (o := .lst [.int n2, .int c2])
    have hA6 : Src (upd H5 s2 (.lst [.int n2, .int c2])) s2 := ⟨n2, c2, upd_same⟩
    generalize upd H5 s2 (.lst [.int n2, .int c2]) = H6 at u6 hA6 ⊢
    have s26 := s25.trans u6
    have hp5 := s25 _ _ hp
    have ps : p ≠ s2 := ne_of_none hp5 ns2
    have hp6 := u6 _ _ hp5
    have hd6 := dpAll_same s26 hd
    have hna6 := Bx.Same.tup s26 hna2
    clear u4 hA4 hA5 b5 s3 s25 hp5 u6 s26 hna2 hp hd np b2 hA2 u2 b1 hna u0 hA0 hs0 hA1
    walk_at "rd"
    show spSteps K _ _ _ _
    unfold spSteps
    refine ⟨s2, na, p, xs, ns, cs, rfl, hA6, hna6, asc, tx, by omega, ps, hp6, hd6, vc, lc, fun S zs lns H7 b7 hA7 nS hS dz sm ll => ?_⟩
    have Ss : S ≠ s2 := (src_ne hA6 nS).symm
    have hna7 := sqt_but hA6 b7 hna6
    have hp7 := b7 _ _ ps hp6
    walk_at "rd"
    show spSpoilt K _ _ _ _
    unfold spSpoilt
    refine ⟨s2, na, p, S, xs, zs, ns, lns, rfl, hA7, hna7, tx, by omega, ps, hp7, by omega, Ss, hS, dz, sm, ll, fun r us ms H8 b8 hA8 hr8 dus okm lm => ?_⟩
    have b68 := b7.trans b8
    have hna8 := sqt_but hA6 b68 hna6
    have hp8 := b68 _ _ ps hp6
    have hd8 := da_tk (tk_but hA6 b68) _ _ (tup_cls cs) hd6
    clear hna7 hp7 hS dz sm ll b7 b8 b68 hA7 hA6 hd6 hp6 hna6
    walk_at "rd"
    show spRep K _ _ _ _
    unfold spRep
    refine ⟨p, r, xs, us, ns, cs, ms, rfl, sq hp8, hd8, sq hr8, dus, okm, vc, tx, by omega, by omega, by omega, fun v o H9 s9 run hv => ?_⟩
    walk_at "rd"
    refine ⟨p, _, rfl, .inl ⟨sq (s9 _ _ hp8), fun t1 nt1 => ?_⟩⟩
    have st1 := same_new nt1 (o := .tup xs)
    have ht1 := upd_same (H := H9) (a := t1) (o := .tup xs)
    generalize upd H9 t1 (.tup xs) = H10 at st1 ht1 ⊢
    walk_at "rd"
    refine ⟨r, _, rfl, .inl ⟨sq ((s9.trans st1) _ _ hr8), fun t2 nt2 => ?_⟩⟩
    have st2 := same_new nt2 (o := .tup us)
    have ht2 := upd_same (H := H10) (a := t2) (o := .tup us)
    have ht12 := st2 _ _ ht1
    generalize upd H10 t2 (.tup us) = H11 at st2 ht2 ht12 ⊢
    have s11 := s9.trans (st1.trans st2)
    show spRun K _ _ _ _
    unfold spRun
    refine ⟨t1, t2, xs, us, ns, cs, ms, rfl, sqt ht12, dpAll_same s11 hd8, sqt ht2, dpAll_same s11 dus, okm, vc, tx, by omega, by omega, by omega, fun v2 o2 H12 s12 run2 hv2 => ?_⟩
    have eo := run_one run2 run
    subst eo
    have s812 := s11.trans s12
    have s912 := (st1.trans st2).trans s12
    dsimp only [gName]
    refine st_co (fun H' => H' = H12) (fun D' hD' => ?_) ?_
    · walk_at "rd"
      cases o2 with
      | none =>
        have e1 : v = .non := hv
        have e2 : v2 = .non := hv2
        subst e1
        subst e2
        refine ite2 (fun _ => ?_) (fun h => absurd (show decide (V.non = V.non) = true by simp) h)
        walk_at "rd"
        refine ite2 (fun h => absurd h (by decide)) (fun _ => ?_)
        exact hD' _ rfl
      | some ds =>
        have e1 : Dp K H9 v (.tuple (ds.map clD)) := hv
        obtain ⟨b, z, rfl, _⟩ := dp_tup e1
        refine ite2 (fun h => absurd h (by simp)) (fun _ => ?_)
        exact hD' _ rfl
    rintro H12 rfl
    refine st_co (fun H' => H' = H12) (fun D' hD' => ?_) ?_
    · walk_at "rd"
      cases o2 with
      | none =>
        have e1 : v = .non := hv
        subst e1
        refine ite2 (fun h => absurd h (by decide)) (fun _ => ?_)
        exact hD' _ rfl
      | some ds =>
        have d1 : Dp K H12 v (.tuple (ds.map clD)) := dp_same s912 hv
        have d2 : Dp K H12 v2 (.tuple (ds.map clD)) := hv2
        have okd : ∀ c ∈ ds, OkC c := fun c hc => (vc_ok tx (by omega) (run_ok vc run2 (fun c hc => by cases hc) ds rfl c hc)).1
        obtain ⟨b, z, rfl, hb, _⟩ := dp_tup d1
        obtain ⟨b2, z2, rfl, hb2, _⟩ := dp_tup d2
        refine ite2 (fun _ => ?_) (fun h => absurd (show (!decide (V.ref b = V.non)) = true by simp) h)
        walk_at "rd"
        refine ⟨_, _, _, _, true, rfl, .ty "tuple", ty_tup hb2, kit_ty (by decide +kernel), ?_⟩
        walk_at "rd"
        refine ⟨_, _, d2, d1, sh_clsT okd, sh_clsT okd, ?_⟩
        rw [eqv_clsT okd]
        refine ⟨_, rfl, ?_⟩
        refine ite2 (fun h => absurd h (by decide)) (fun _ => ?_)
        exact hD' _ rfl
    rintro H12 rfl
    have hp13 := s812 _ _ hp8
    have hd13 := dpAll_same s812 hd8
    have hA13 := src_same hA8 s812
    have hna13 := Bx.Same.tup s812 hna8
    walk_at "rd"
    refine ⟨⟨_, sq hp13⟩, for_it (walk_list (K := K) (a := p) (xs := xs)) (fun j σ H' => ∃ o7 : Option V, σ = [some (.ref sa), some (.ref s2), some (.ref na), some (.ref p), some (.ref r), some v, some v2, o7] ∧ SameBut s2 H12 H' ∧ Src H' s2) ⟨none, rfl, SameBut.refl _ _, hA13⟩ (fun j σ H' _ ⟨_, _, s, _⟩ => sq (s _ _ ps hp13)) ?_ ?_⟩
    · rintro j x σ H14a H14 hj ⟨o7, rfl, b14, hA14⟩ ⟨rfl, hx⟩
      obtain ⟨c, hc, dc⟩ := da_atM (da_tk (tk_but hA13 b14) _ _ (tup_cls cs) hd13) hx
      obtain ⟨pc, zs, rfl, _⟩ := dp_tup dc
      walk_at "rd"
      show spMeth K _ _ _ _
      unfold spMeth
      refine ⟨s2, na, pc, ns, c, rfl, hA14, sqt_but hA13 b14 hna13, asc, tx, by omega, dc, vc c (List.mem_of_getElem? hc), fun H15 b15 hA15 => ?_⟩
      walk_at "rd"
      exact ⟨b14.trans b15, hA15⟩
    · rintro σ H14 ⟨o7, rfl, b14, hA14⟩
      walk_at "rd"
      exact q _
end
end K08
namespace K08
open PySem PySem.Spec PyProof.Rows L2 Bx TL Dx Zx Ow Sup NdefX Px
set_option maxHeartbeats 4000000 in
theorem all_mk {l : PySem.W.OpenLaw} {w : World} {K : PySem.W.Frag} {h : Heap} {mg : Str → Option Value} {fa : Addr} (X : K.In h) (G : h.Ns mainGlobals mg) (hfa : mg "law" = some (.ref fa))
    {C CK : Addr} {cdC : ClassData}
    {f_kind : Addr} {oc_kind kV_kind dc_kind pm_kind cd_kind ct_kind : Value} {od_kind an_kind : Option Addr} {sl_kind : Array (Option Value)}
    {fV ccV cdaV : Addr} {ocV kVV dcV pmV ctV clV cclV : Value} {odV anV cldV cddV : Option Addr} {oslV cslV ccsV : Array (Option Value)} {vsV : Array Value} {fileV : Str} {tfV : Tok}
    {f_Mnames_in : Addr} {oc_Mnames_in kV_Mnames_in dc_Mnames_in pm_Mnames_in cd_Mnames_in ct_Mnames_in : Value} {od_Mnames_in an_Mnames_in : Option Addr} {sl_Mnames_in : Array (Option Value)}
    {f_Mholds : Addr} {oc_Mholds kV_Mholds dc_Mholds pm_Mholds cd_Mholds ct_Mholds : Value} {od_Mholds an_Mholds : Option Addr} {sl_Mholds : Array (Option Value)}
    {f_contains : Addr} {oc_contains kV_contains dc_contains pm_contains cd_contains ct_contains : Value} {od_contains an_contains : Option Addr} {sl_contains : Array (Option Value)}
    {f__is_least : Addr} {oc__is_least kV__is_least dc__is_least pm__is_least cd__is_least ct__is_least : Value} {od__is_least an__is_least : Option Addr} {sl__is_least : Array (Option Value)}
    {f_least_clauses : Addr} {oc_least_clauses kV_least_clauses dc_least_clauses pm_least_clauses cd_least_clauses ct_least_clauses : Value} {od_least_clauses an_least_clauses : Option Addr} {sl_least_clauses : Array (Option Value)}
    {f_resolvent : Addr} {oc_resolvent kV_resolvent dc_resolvent pm_resolvent cd_resolvent ct_resolvent : Value} {od_resolvent an_resolvent : Option Addr} {sl_resolvent : Array (Option Value)}
    {f__clause_at : Addr} {oc__clause_at kV__clause_at dc__clause_at pm__clause_at cd__clause_at ct__clause_at : Value} {od__clause_at an__clause_at : Option Addr} {sl__clause_at : Array (Option Value)}
    {f__derived : Addr} {oc__derived kV__derived dc__derived pm__derived cd__derived ct__derived : Value} {od__derived an__derived : Option Addr} {sl__derived : Array (Option Value)}
    {f_derive_lines : Addr} {oc_derive_lines kV_derive_lines dc_derive_lines pm_derive_lines cd_derive_lines ct_derive_lines : Value} {od_derive_lines an_derive_lines : Option Addr} {sl_derive_lines : Array (Option Value)}
    {f_is_ascending : Addr} {oc_is_ascending kV_is_ascending dc_is_ascending pm_is_ascending cd_is_ascending ct_is_ascending : Value} {od_is_ascending an_is_ascending : Option Addr} {sl_is_ascending : Array (Option Value)}
    {f__law_source : Addr} {oc__law_source kV__law_source dc__law_source pm__law_source cd__law_source ct__law_source : Value} {od__law_source an__law_source : Option Addr} {sl__law_source : Array (Option Value)}
    {f__law_draw : Addr} {oc__law_draw kV__law_draw dc__law_draw pm__law_draw cd__law_draw ct__law_draw : Value} {od__law_draw an__law_draw : Option Addr} {sl__law_draw : Array (Option Value)}
    {f__law_names : Addr} {oc__law_names kV__law_names dc__law_names pm__law_names cd__law_names ct__law_names : Value} {od__law_names an__law_names : Option Addr} {sl__law_names : Array (Option Value)}
    {f__law_clause : Addr} {oc__law_clause kV__law_clause dc__law_clause pm__law_clause cd__law_clause ct__law_clause : Value} {od__law_clause an__law_clause : Option Addr} {sl__law_clause : Array (Option Value)}
    {f__law_clauses : Addr} {oc__law_clauses kV__law_clauses dc__law_clauses pm__law_clauses cd__law_clauses ct__law_clauses : Value} {od__law_clauses an__law_clauses : Option Addr} {sl__law_clauses : Array (Option Value)}
    {f__law_within : Addr} {oc__law_within kV__law_within dc__law_within pm__law_within cd__law_within ct__law_within : Value} {od__law_within an__law_within : Option Addr} {sl__law_within : Array (Option Value)}
    {f__law_cut : Addr} {oc__law_cut kV__law_cut dc__law_cut pm__law_cut cd__law_cut ct__law_cut : Value} {od__law_cut an__law_cut : Option Addr} {sl__law_cut : Array (Option Value)}
    {f__law_step : Addr} {oc__law_step kV__law_step dc__law_step pm__law_step cd__law_step ct__law_step : Value} {od__law_step an__law_step : Option Addr} {sl__law_step : Array (Option Value)}
    {f__law_replayed : Addr} {oc__law_replayed kV__law_replayed dc__law_replayed pm__law_replayed cd__law_replayed ct__law_replayed : Value} {od__law_replayed an__law_replayed : Option Addr} {sl__law_replayed : Array (Option Value)}
    {f__law_steps : Addr} {oc__law_steps kV__law_steps dc__law_steps pm__law_steps cd__law_steps ct__law_steps : Value} {od__law_steps an__law_steps : Option Addr} {sl__law_steps : Array (Option Value)}
    {f__law_spoilt : Addr} {oc__law_spoilt kV__law_spoilt dc__law_spoilt pm__law_spoilt cd__law_spoilt ct__law_spoilt : Value} {od__law_spoilt an__law_spoilt : Option Addr} {sl__law_spoilt : Array (Option Value)}
    {f__law_is_bool : Addr} {oc__law_is_bool kV__law_is_bool dc__law_is_bool pm__law_is_bool cd__law_is_bool ct__law_is_bool : Value} {od__law_is_bool an__law_is_bool : Option Addr} {sl__law_is_bool : Array (Option Value)}
    {f__law_pairs_right : Addr} {oc__law_pairs_right kV__law_pairs_right dc__law_pairs_right pm__law_pairs_right cd__law_pairs_right ct__law_pairs_right : Value} {od__law_pairs_right an__law_pairs_right : Option Addr} {sl__law_pairs_right : Array (Option Value)}
    {f__law_least_right : Addr} {oc__law_least_right kV__law_least_right dc__law_least_right pm__law_least_right cd__law_least_right ct__law_least_right : Value} {od__law_least_right an__law_least_right : Option Addr} {sl__law_least_right : Array (Option Value)}
    {f__law_methods_right : Addr} {oc__law_methods_right kV__law_methods_right dc__law_methods_right pm__law_methods_right cd__law_methods_right ct__law_methods_right : Value} {od__law_methods_right an__law_methods_right : Option Addr} {sl__law_methods_right : Array (Option Value)}
    {f_law : Addr} {oc_law kV_law dc_law pm_law cd_law ct_law : Value} {od_law an_law : Option Addr} {sl_law : Array (Option Value)}
    (aC : PySem.W.nsIn K mainGlobals "Bits" = some (some (.ref C)))
    (aK : PySem.W.nsIn K mainGlobals "Kind" = some (some (.ref CK)))
    (pg : PySem.W.plainGet K C Str.empty = true)
    (hd : PySem.W.hasDictIn K C = true)
    (po : PySem.W.plainOver K C = true)
    (sa : PySem.W.findIn K (.ref C) "__setattr__" = some (some (.builtin "object.__setattr__")))
    (mk : PySem.W.makesIn K C = true)
    (kc : PySem.W.keepIn K (.ref C) = true)
    (ini : PySem.W.findIn K (.ref C) "__init__" = some (some (.builtin "object.__init__")))
    (p_top : (l.prog.main.scope.names.lookup ("super" : Str)).isSome = false)
    (z_super : PySem.W.nsIn K mainGlobals "super" = some none)
    (any_ : PySem.W.nsIn K cStatics "thirdparty.any" = some none)
    (a_kind : PySem.W.findIn K (.ref CK) "is_valid" = some (some (.ref f_kind))) (l_kind : K.lookup f_kind = some ⟨oc_kind, od_kind, .func (PySem.W.fnOf "is_valid" "Kind.is_valid" (defArgs s_Kind_is_valid) (defBody s_Kind_is_valid) (defScope s_Kind_is_valid) .none kV_kind dc_kind pm_kind an_kind cd_kind ct_kind), sl_kind⟩) (c_kind : PySem.W.codeIn K cd_kind "Kind.is_valid" = true) (k_kind : PySem.W.keepIn K (.ref f_kind) = true)
    (cdC_ : PySem.W.clsIn K C = some cdC)
    (mC : PySem.W.mroIn K C (.ref C) = some true)
    (sC : PySem.W.ks_superIn K C C "is_valid" = some (some (.ref f_kind)))
    (tg : PySem.W.typeIn K (.ref f_kind) = some (.type "function"))
    (fg : PySem.W.fnIn K f_kind = true)
    (i_V : PySem.W.findIn K (.ref C) "is_valid" = some (some (.ref fV)))
    (l_V : K.lookup fV = some ⟨ocV, odV, .func (PySem.W.fnX "is_valid" "Bits.is_valid" (defArgs s_Bits_is_valid) (defBody s_Bits_is_valid) (defScope s_Bits_is_valid) [(("__class__" : Str), ccV)] .none kVV dcV pmV anV (.ref cdaV) ctV), oslV⟩)
    (c_V : PySem.W.codeIn K (.ref cdaV) "Bits.is_valid" = true)
    (l_ccV : K.lookup ccV = some ⟨clV, cldV, .cell (some (.ref C)), cslV⟩)
    (l_cdaV : K.lookup cdaV = some ⟨cclV, cddV, .fields vsV, ccsV⟩)
    (v_cdaV : vsV[2]? = some (.str fileV tfV))
    (p_fileV : ((l.prog.main.file : Str) == fileV) = true)
    (iV : PySem.W.isFn K (.ref fV) = true)
    (kV_ : PySem.W.keepIn K (.ref fV) = true)
    (a_Mnames_in : PySem.W.findIn K (.ref C) "names_in" = some (some (.ref f_Mnames_in))) (l_Mnames_in : K.lookup f_Mnames_in = some ⟨oc_Mnames_in, od_Mnames_in, .func (PySem.W.fnOf "names_in" "Bits.names_in" (defArgs s_Bits_names_in) (defBody s_Bits_names_in) (defScope s_Bits_names_in) .none kV_Mnames_in dc_Mnames_in pm_Mnames_in an_Mnames_in cd_Mnames_in ct_Mnames_in), sl_Mnames_in⟩) (c_Mnames_in : PySem.W.codeIn K cd_Mnames_in "Bits.names_in" = true) (k_Mnames_in : PySem.W.keepIn K (.ref f_Mnames_in) = true)
    (i_Mnames_in : PySem.W.isFn K (.ref f_Mnames_in) = true)
    (a_Mholds : PySem.W.findIn K (.ref C) "holds" = some (some (.ref f_Mholds))) (l_Mholds : K.lookup f_Mholds = some ⟨oc_Mholds, od_Mholds, .func (PySem.W.fnOf "holds" "Bits.holds" (defArgs s_Bits_holds) (defBody s_Bits_holds) (defScope s_Bits_holds) .none kV_Mholds dc_Mholds pm_Mholds an_Mholds cd_Mholds ct_Mholds), sl_Mholds⟩) (c_Mholds : PySem.W.codeIn K cd_Mholds "Bits.holds" = true) (k_Mholds : PySem.W.keepIn K (.ref f_Mholds) = true)
    (i_Mholds : PySem.W.isFn K (.ref f_Mholds) = true)
    (a_contains : PySem.W.nsIn K mainGlobals "contains" = some (some (.ref f_contains))) (l_contains : K.lookup f_contains = some ⟨oc_contains, od_contains, .func (PySem.W.fnOf "contains" "contains" (defArgs s_contains) (defBody s_contains) (defScope s_contains) .none kV_contains dc_contains pm_contains an_contains cd_contains ct_contains), sl_contains⟩) (c_contains : PySem.W.codeIn K cd_contains "contains" = true) (k_contains : PySem.W.keepIn K (.ref f_contains) = true)
    (a__is_least : PySem.W.nsIn K mainGlobals "_is_least" = some (some (.ref f__is_least))) (l__is_least : K.lookup f__is_least = some ⟨oc__is_least, od__is_least, .func (PySem.W.fnOf "_is_least" "_is_least" (defArgs s__is_least) (defBody s__is_least) (defScope s__is_least) .none kV__is_least dc__is_least pm__is_least an__is_least cd__is_least ct__is_least), sl__is_least⟩) (c__is_least : PySem.W.codeIn K cd__is_least "_is_least" = true) (k__is_least : PySem.W.keepIn K (.ref f__is_least) = true)
    (a_least_clauses : PySem.W.nsIn K mainGlobals "least_clauses" = some (some (.ref f_least_clauses))) (l_least_clauses : K.lookup f_least_clauses = some ⟨oc_least_clauses, od_least_clauses, .func (PySem.W.fnOf "least_clauses" "least_clauses" (defArgs s_least_clauses) (defBody s_least_clauses) (defScope s_least_clauses) .none kV_least_clauses dc_least_clauses pm_least_clauses an_least_clauses cd_least_clauses ct_least_clauses), sl_least_clauses⟩) (c_least_clauses : PySem.W.codeIn K cd_least_clauses "least_clauses" = true) (k_least_clauses : PySem.W.keepIn K (.ref f_least_clauses) = true)
    (a_resolvent : PySem.W.nsIn K mainGlobals "resolvent" = some (some (.ref f_resolvent))) (l_resolvent : K.lookup f_resolvent = some ⟨oc_resolvent, od_resolvent, .func (PySem.W.fnOf "resolvent" "resolvent" (defArgs s_resolvent) (defBody s_resolvent) (defScope s_resolvent) .none kV_resolvent dc_resolvent pm_resolvent an_resolvent cd_resolvent ct_resolvent), sl_resolvent⟩) (c_resolvent : PySem.W.codeIn K cd_resolvent "resolvent" = true) (k_resolvent : PySem.W.keepIn K (.ref f_resolvent) = true)
    (a__clause_at : PySem.W.nsIn K mainGlobals "_clause_at" = some (some (.ref f__clause_at))) (l__clause_at : K.lookup f__clause_at = some ⟨oc__clause_at, od__clause_at, .func (PySem.W.fnOf "_clause_at" "_clause_at" (defArgs s__clause_at) (defBody s__clause_at) (defScope s__clause_at) .none kV__clause_at dc__clause_at pm__clause_at an__clause_at cd__clause_at ct__clause_at), sl__clause_at⟩) (c__clause_at : PySem.W.codeIn K cd__clause_at "_clause_at" = true) (k__clause_at : PySem.W.keepIn K (.ref f__clause_at) = true)
    (a__derived : PySem.W.nsIn K mainGlobals "_derived" = some (some (.ref f__derived))) (l__derived : K.lookup f__derived = some ⟨oc__derived, od__derived, .func (PySem.W.fnOf "_derived" "_derived" (defArgs s__derived) (defBody s__derived) (defScope s__derived) .none kV__derived dc__derived pm__derived an__derived cd__derived ct__derived), sl__derived⟩) (c__derived : PySem.W.codeIn K cd__derived "_derived" = true) (k__derived : PySem.W.keepIn K (.ref f__derived) = true)
    (a_derive_lines : PySem.W.nsIn K mainGlobals "derive_lines" = some (some (.ref f_derive_lines))) (l_derive_lines : K.lookup f_derive_lines = some ⟨oc_derive_lines, od_derive_lines, .func (PySem.W.fnOf "derive_lines" "derive_lines" (defArgs s_derive_lines) (defBody s_derive_lines) (defScope s_derive_lines) .none kV_derive_lines dc_derive_lines pm_derive_lines an_derive_lines cd_derive_lines ct_derive_lines), sl_derive_lines⟩) (c_derive_lines : PySem.W.codeIn K cd_derive_lines "derive_lines" = true) (k_derive_lines : PySem.W.keepIn K (.ref f_derive_lines) = true)
    (a_is_ascending : PySem.W.nsIn K mainGlobals "is_ascending" = some (some (.ref f_is_ascending))) (l_is_ascending : K.lookup f_is_ascending = some ⟨oc_is_ascending, od_is_ascending, .func (PySem.W.fnOf "is_ascending" "is_ascending" (defArgs s_is_ascending) (defBody s_is_ascending) (defScope s_is_ascending) .none kV_is_ascending dc_is_ascending pm_is_ascending an_is_ascending cd_is_ascending ct_is_ascending), sl_is_ascending⟩) (c_is_ascending : PySem.W.codeIn K cd_is_ascending "is_ascending" = true) (k_is_ascending : PySem.W.keepIn K (.ref f_is_ascending) = true)
    (a__law_source : PySem.W.nsIn K mainGlobals "_law_source" = some (some (.ref f__law_source))) (l__law_source : K.lookup f__law_source = some ⟨oc__law_source, od__law_source, .func (PySem.W.fnOf "_law_source" "_law_source" (defArgs s__law_source) (defBody s__law_source) (defScope s__law_source) .none kV__law_source dc__law_source pm__law_source an__law_source cd__law_source ct__law_source), sl__law_source⟩) (c__law_source : PySem.W.codeIn K cd__law_source "_law_source" = true) (k__law_source : PySem.W.keepIn K (.ref f__law_source) = true)
    (a__law_draw : PySem.W.nsIn K mainGlobals "_law_draw" = some (some (.ref f__law_draw))) (l__law_draw : K.lookup f__law_draw = some ⟨oc__law_draw, od__law_draw, .func (PySem.W.fnOf "_law_draw" "_law_draw" (defArgs s__law_draw) (defBody s__law_draw) (defScope s__law_draw) .none kV__law_draw dc__law_draw pm__law_draw an__law_draw cd__law_draw ct__law_draw), sl__law_draw⟩) (c__law_draw : PySem.W.codeIn K cd__law_draw "_law_draw" = true) (k__law_draw : PySem.W.keepIn K (.ref f__law_draw) = true)
    (a__law_names : PySem.W.nsIn K mainGlobals "_law_names" = some (some (.ref f__law_names))) (l__law_names : K.lookup f__law_names = some ⟨oc__law_names, od__law_names, .func (PySem.W.fnOf "_law_names" "_law_names" (defArgs s__law_names) (defBody s__law_names) (defScope s__law_names) .none kV__law_names dc__law_names pm__law_names an__law_names cd__law_names ct__law_names), sl__law_names⟩) (c__law_names : PySem.W.codeIn K cd__law_names "_law_names" = true) (k__law_names : PySem.W.keepIn K (.ref f__law_names) = true)
    (a__law_clause : PySem.W.nsIn K mainGlobals "_law_clause" = some (some (.ref f__law_clause))) (l__law_clause : K.lookup f__law_clause = some ⟨oc__law_clause, od__law_clause, .func (PySem.W.fnOf "_law_clause" "_law_clause" (defArgs s__law_clause) (defBody s__law_clause) (defScope s__law_clause) .none kV__law_clause dc__law_clause pm__law_clause an__law_clause cd__law_clause ct__law_clause), sl__law_clause⟩) (c__law_clause : PySem.W.codeIn K cd__law_clause "_law_clause" = true) (k__law_clause : PySem.W.keepIn K (.ref f__law_clause) = true)
    (a__law_clauses : PySem.W.nsIn K mainGlobals "_law_clauses" = some (some (.ref f__law_clauses))) (l__law_clauses : K.lookup f__law_clauses = some ⟨oc__law_clauses, od__law_clauses, .func (PySem.W.fnOf "_law_clauses" "_law_clauses" (defArgs s__law_clauses) (defBody s__law_clauses) (defScope s__law_clauses) .none kV__law_clauses dc__law_clauses pm__law_clauses an__law_clauses cd__law_clauses ct__law_clauses), sl__law_clauses⟩) (c__law_clauses : PySem.W.codeIn K cd__law_clauses "_law_clauses" = true) (k__law_clauses : PySem.W.keepIn K (.ref f__law_clauses) = true)
    (a__law_within : PySem.W.nsIn K mainGlobals "_law_within" = some (some (.ref f__law_within))) (l__law_within : K.lookup f__law_within = some ⟨oc__law_within, od__law_within, .func (PySem.W.fnOf "_law_within" "_law_within" (defArgs s__law_within) (defBody s__law_within) (defScope s__law_within) .none kV__law_within dc__law_within pm__law_within an__law_within cd__law_within ct__law_within), sl__law_within⟩) (c__law_within : PySem.W.codeIn K cd__law_within "_law_within" = true) (k__law_within : PySem.W.keepIn K (.ref f__law_within) = true)
    (a__law_cut : PySem.W.nsIn K mainGlobals "_law_cut" = some (some (.ref f__law_cut))) (l__law_cut : K.lookup f__law_cut = some ⟨oc__law_cut, od__law_cut, .func (PySem.W.fnOf "_law_cut" "_law_cut" (defArgs s__law_cut) (defBody s__law_cut) (defScope s__law_cut) .none kV__law_cut dc__law_cut pm__law_cut an__law_cut cd__law_cut ct__law_cut), sl__law_cut⟩) (c__law_cut : PySem.W.codeIn K cd__law_cut "_law_cut" = true) (k__law_cut : PySem.W.keepIn K (.ref f__law_cut) = true)
    (a__law_step : PySem.W.nsIn K mainGlobals "_law_step" = some (some (.ref f__law_step))) (l__law_step : K.lookup f__law_step = some ⟨oc__law_step, od__law_step, .func (PySem.W.fnOf "_law_step" "_law_step" (defArgs s__law_step) (defBody s__law_step) (defScope s__law_step) .none kV__law_step dc__law_step pm__law_step an__law_step cd__law_step ct__law_step), sl__law_step⟩) (c__law_step : PySem.W.codeIn K cd__law_step "_law_step" = true) (k__law_step : PySem.W.keepIn K (.ref f__law_step) = true)
    (a__law_replayed : PySem.W.nsIn K mainGlobals "_law_replayed" = some (some (.ref f__law_replayed))) (l__law_replayed : K.lookup f__law_replayed = some ⟨oc__law_replayed, od__law_replayed, .func (PySem.W.fnOf "_law_replayed" "_law_replayed" (defArgs s__law_replayed) (defBody s__law_replayed) (defScope s__law_replayed) .none kV__law_replayed dc__law_replayed pm__law_replayed an__law_replayed cd__law_replayed ct__law_replayed), sl__law_replayed⟩) (c__law_replayed : PySem.W.codeIn K cd__law_replayed "_law_replayed" = true) (k__law_replayed : PySem.W.keepIn K (.ref f__law_replayed) = true)
    (a__law_steps : PySem.W.nsIn K mainGlobals "_law_steps" = some (some (.ref f__law_steps))) (l__law_steps : K.lookup f__law_steps = some ⟨oc__law_steps, od__law_steps, .func (PySem.W.fnOf "_law_steps" "_law_steps" (defArgs s__law_steps) (defBody s__law_steps) (defScope s__law_steps) .none kV__law_steps dc__law_steps pm__law_steps an__law_steps cd__law_steps ct__law_steps), sl__law_steps⟩) (c__law_steps : PySem.W.codeIn K cd__law_steps "_law_steps" = true) (k__law_steps : PySem.W.keepIn K (.ref f__law_steps) = true)
    (a__law_spoilt : PySem.W.nsIn K mainGlobals "_law_spoilt" = some (some (.ref f__law_spoilt))) (l__law_spoilt : K.lookup f__law_spoilt = some ⟨oc__law_spoilt, od__law_spoilt, .func (PySem.W.fnOf "_law_spoilt" "_law_spoilt" (defArgs s__law_spoilt) (defBody s__law_spoilt) (defScope s__law_spoilt) .none kV__law_spoilt dc__law_spoilt pm__law_spoilt an__law_spoilt cd__law_spoilt ct__law_spoilt), sl__law_spoilt⟩) (c__law_spoilt : PySem.W.codeIn K cd__law_spoilt "_law_spoilt" = true) (k__law_spoilt : PySem.W.keepIn K (.ref f__law_spoilt) = true)
    (a__law_is_bool : PySem.W.nsIn K mainGlobals "_law_is_bool" = some (some (.ref f__law_is_bool))) (l__law_is_bool : K.lookup f__law_is_bool = some ⟨oc__law_is_bool, od__law_is_bool, .func (PySem.W.fnOf "_law_is_bool" "_law_is_bool" (defArgs s__law_is_bool) (defBody s__law_is_bool) (defScope s__law_is_bool) .none kV__law_is_bool dc__law_is_bool pm__law_is_bool an__law_is_bool cd__law_is_bool ct__law_is_bool), sl__law_is_bool⟩) (c__law_is_bool : PySem.W.codeIn K cd__law_is_bool "_law_is_bool" = true) (k__law_is_bool : PySem.W.keepIn K (.ref f__law_is_bool) = true)
    (a__law_pairs_right : PySem.W.nsIn K mainGlobals "_law_pairs_right" = some (some (.ref f__law_pairs_right))) (l__law_pairs_right : K.lookup f__law_pairs_right = some ⟨oc__law_pairs_right, od__law_pairs_right, .func (PySem.W.fnOf "_law_pairs_right" "_law_pairs_right" (defArgs s__law_pairs_right) (defBody s__law_pairs_right) (defScope s__law_pairs_right) .none kV__law_pairs_right dc__law_pairs_right pm__law_pairs_right an__law_pairs_right cd__law_pairs_right ct__law_pairs_right), sl__law_pairs_right⟩) (c__law_pairs_right : PySem.W.codeIn K cd__law_pairs_right "_law_pairs_right" = true) (k__law_pairs_right : PySem.W.keepIn K (.ref f__law_pairs_right) = true)
    (a__law_least_right : PySem.W.nsIn K mainGlobals "_law_least_right" = some (some (.ref f__law_least_right))) (l__law_least_right : K.lookup f__law_least_right = some ⟨oc__law_least_right, od__law_least_right, .func (PySem.W.fnOf "_law_least_right" "_law_least_right" (defArgs s__law_least_right) (defBody s__law_least_right) (defScope s__law_least_right) .none kV__law_least_right dc__law_least_right pm__law_least_right an__law_least_right cd__law_least_right ct__law_least_right), sl__law_least_right⟩) (c__law_least_right : PySem.W.codeIn K cd__law_least_right "_law_least_right" = true) (k__law_least_right : PySem.W.keepIn K (.ref f__law_least_right) = true)
    (a__law_methods_right : PySem.W.nsIn K mainGlobals "_law_methods_right" = some (some (.ref f__law_methods_right))) (l__law_methods_right : K.lookup f__law_methods_right = some ⟨oc__law_methods_right, od__law_methods_right, .func (PySem.W.fnOf "_law_methods_right" "_law_methods_right" (defArgs s__law_methods_right) (defBody s__law_methods_right) (defScope s__law_methods_right) .none kV__law_methods_right dc__law_methods_right pm__law_methods_right an__law_methods_right cd__law_methods_right ct__law_methods_right), sl__law_methods_right⟩) (c__law_methods_right : PySem.W.codeIn K cd__law_methods_right "_law_methods_right" = true) (k__law_methods_right : PySem.W.keepIn K (.ref f__law_methods_right) = true)
    (a_law : PySem.W.nsIn K mainGlobals "law" = some (some (.ref f_law))) (l_law : K.lookup f_law = some ⟨oc_law, od_law, .func (PySem.W.fnOf "law" "law" (defArgs s_law) (defBody s_law) (defScope s_law) .none kV_law dc_law pm_law an_law cd_law ct_law), sl_law⟩) (c_law : PySem.W.codeIn K cd_law "law" = true) (k_law : PySem.W.keepIn K (.ref f_law) = true)
    (z_all : PySem.W.nsIn K mainGlobals "all" = some none)
    (z_any : PySem.W.nsIn K mainGlobals "any" = some none)
    (z_set : PySem.W.nsIn K mainGlobals "set" = some none)
    (z_sorted : PySem.W.nsIn K mainGlobals "sorted" = some none)
    (z_tuple : PySem.W.nsIn K mainGlobals "tuple" = some none)
    (z_len : PySem.W.nsIn K mainGlobals "len" = some none)
    (z_list : PySem.W.nsIn K mainGlobals "list" = some none)
    (z_int : PySem.W.nsIn K mainGlobals "int" = some none)
    (z_range : PySem.W.nsIn K mainGlobals "range" = some none)
    (z_max : PySem.W.nsIn K mainGlobals "max" = some none)
    (z_isinstance : PySem.W.nsIn K mainGlobals "isinstance" = some none)
    (z_bool : PySem.W.nsIn K mainGlobals "bool" = some none)
    : ∃ fd : FuncData, (∀ (s : Shared) (v : Value), BindsTo s fd ⟨[v], []⟩ [("_law_script", v)]) ∧ ∀ base : Heap, K.In base → base.Ns mainGlobals mg → FnOk l.prog w K mg base CX0 8 fa fd ["_law_script"] (spLaw K) := by
  have e := hfa.symm.trans (PySem.W.mg_of X G a_law)
  cases e
  have F_kind := fun_mk (x := "is_valid") (qual := "Kind.is_valid") (st := s_Kind_is_valid) l_kind c_kind k_kind
  have b_kind := F_kind.binds (ps := ["self", "names", "constraint"]) fun _ _ _ _ _ _ us hl => match us, hl with | [_, _, _], _ => rfl
  have F_Mnames_in := fun_mk (x := "names_in") (qual := "Bits.names_in") (st := s_Bits_names_in) l_Mnames_in c_Mnames_in k_Mnames_in
  have b_Mnames_in := F_Mnames_in.binds (ps := ["self", "constraint"]) fun _ _ _ _ _ _ us hl => match us, hl with | [_, _], _ => rfl
  have F_Mholds := fun_mk (x := "holds") (qual := "Bits.holds") (st := s_Bits_holds) l_Mholds c_Mholds k_Mholds
  have b_Mholds := F_Mholds.binds (ps := ["self", "constraint", "assignment"]) fun _ _ _ _ _ _ us hl => match us, hl with | [_, _, _], _ => rfl
  have F_contains := fun_mk (x := "contains") (qual := "contains") (st := s_contains) l_contains c_contains k_contains
  have b_contains := F_contains.binds (ps := ["first", "second"]) fun _ _ _ _ _ _ us hl => match us, hl with | [_, _], _ => rfl
  have F__is_least := fun_mk (x := "_is_least") (qual := "_is_least") (st := s__is_least) l__is_least c__is_least k__is_least
  have b__is_least := F__is_least.binds (ps := ["clause", "clauses"]) fun _ _ _ _ _ _ us hl => match us, hl with | [_, _], _ => rfl
  have F_least_clauses := fun_mk (x := "least_clauses") (qual := "least_clauses") (st := s_least_clauses) l_least_clauses c_least_clauses k_least_clauses
  have b_least_clauses := F_least_clauses.binds (ps := ["clauses"]) fun _ _ _ _ _ _ us hl => match us, hl with | [_], _ => rfl
  have F_resolvent := fun_mk (x := "resolvent") (qual := "resolvent") (st := s_resolvent) l_resolvent c_resolvent k_resolvent
  have b_resolvent := F_resolvent.binds (ps := ["first", "second", "name"]) fun _ _ _ _ _ _ us hl => match us, hl with | [_, _, _], _ => rfl
  have F__clause_at := fun_mk (x := "_clause_at") (qual := "_clause_at") (st := s__clause_at) l__clause_at c__clause_at k__clause_at
  have b__clause_at := F__clause_at.binds (ps := ["clauses", "index"]) fun _ _ _ _ _ _ us hl => match us, hl with | [_, _], _ => rfl
  have F__derived := fun_mk (x := "_derived") (qual := "_derived") (st := s__derived) l__derived c__derived k__derived
  have b__derived := F__derived.binds (ps := ["clauses", "before", "line"]) fun _ _ _ _ _ _ us hl => match us, hl with | [_, _, _], _ => rfl
  have F_derive_lines := fun_mk (x := "derive_lines") (qual := "derive_lines") (st := s_derive_lines) l_derive_lines c_derive_lines k_derive_lines
  have b_derive_lines := F_derive_lines.binds (ps := ["clauses", "certificate"]) fun _ _ _ _ _ _ us hl => match us, hl with | [_, _], _ => rfl
  have F_is_ascending := fun_mk (x := "is_ascending") (qual := "is_ascending") (st := s_is_ascending) l_is_ascending c_is_ascending k_is_ascending
  have b_is_ascending := F_is_ascending.binds (ps := ["values"]) fun _ _ _ _ _ _ us hl => match us, hl with | [_], _ => rfl
  have F__law_source := fun_mk (x := "_law_source") (qual := "_law_source") (st := s__law_source) l__law_source c__law_source k__law_source
  have b__law_source := F__law_source.binds (ps := ["_law_script", "_law_k"]) fun _ _ _ _ _ _ us hl => match us, hl with | [_, _], _ => rfl
  have F__law_draw := fun_mk (x := "_law_draw") (qual := "_law_draw") (st := s__law_draw) l__law_draw c__law_draw k__law_draw
  have b__law_draw := F__law_draw.binds (ps := ["_law_source_here", "_law_limit"]) fun _ _ _ _ _ _ us hl => match us, hl with | [_, _], _ => rfl
  have F__law_names := fun_mk (x := "_law_names") (qual := "_law_names") (st := s__law_names) l__law_names c__law_names k__law_names
  have b__law_names := F__law_names.binds (ps := ["_law_source_here", "_law_most"]) fun _ _ _ _ _ _ us hl => match us, hl with | [_, _], _ => rfl
  have F__law_clause := fun_mk (x := "_law_clause") (qual := "_law_clause") (st := s__law_clause) l__law_clause c__law_clause k__law_clause
  have b__law_clause := F__law_clause.binds (ps := ["_law_source_here", "_law_names_here"]) fun _ _ _ _ _ _ us hl => match us, hl with | [_, _], _ => rfl
  have F__law_clauses := fun_mk (x := "_law_clauses") (qual := "_law_clauses") (st := s__law_clauses) l__law_clauses c__law_clauses k__law_clauses
  have b__law_clauses := F__law_clauses.binds (ps := ["_law_source_here", "_law_names_here"]) fun _ _ _ _ _ _ us hl => match us, hl with | [_, _], _ => rfl
  have F__law_within := fun_mk (x := "_law_within") (qual := "_law_within") (st := s__law_within) l__law_within c__law_within k__law_within
  have b__law_within := F__law_within.binds (ps := ["_law_first", "_law_second"]) fun _ _ _ _ _ _ us hl => match us, hl with | [_, _], _ => rfl
  have F__law_cut := fun_mk (x := "_law_cut") (qual := "_law_cut") (st := s__law_cut) l__law_cut c__law_cut k__law_cut
  have b__law_cut := F__law_cut.binds (ps := ["_law_first", "_law_second", "_law_name"]) fun _ _ _ _ _ _ us hl => match us, hl with | [_, _, _], _ => rfl
  have F__law_step := fun_mk (x := "_law_step") (qual := "_law_step") (st := s__law_step) l__law_step c__law_step k__law_step
  have b__law_step := F__law_step.binds (ps := ["_law_clauses_here", "_law_found", "_law_step_here"]) fun _ _ _ _ _ _ us hl => match us, hl with | [_, _, _], _ => rfl
  have F__law_replayed := fun_mk (x := "_law_replayed") (qual := "_law_replayed") (st := s__law_replayed) l__law_replayed c__law_replayed k__law_replayed
  have b__law_replayed := F__law_replayed.binds (ps := ["_law_clauses_here", "_law_steps_here"]) fun _ _ _ _ _ _ us hl => match us, hl with | [_, _], _ => rfl
  have F__law_steps := fun_mk (x := "_law_steps") (qual := "_law_steps") (st := s__law_steps) l__law_steps c__law_steps k__law_steps
  have b__law_steps := F__law_steps.binds (ps := ["_law_source_here", "_law_names_here", "_law_clauses_here"]) fun _ _ _ _ _ _ us hl => match us, hl with | [_, _, _], _ => rfl
  have F__law_spoilt := fun_mk (x := "_law_spoilt") (qual := "_law_spoilt") (st := s__law_spoilt) l__law_spoilt c__law_spoilt k__law_spoilt
  have b__law_spoilt := F__law_spoilt.binds (ps := ["_law_source_here", "_law_names_here", "_law_clauses_here", "_law_steps_here"]) fun _ _ _ _ _ _ us hl => match us, hl with | [_, _, _, _], _ => rfl
  have F__law_is_bool := fun_mk (x := "_law_is_bool") (qual := "_law_is_bool") (st := s__law_is_bool) l__law_is_bool c__law_is_bool k__law_is_bool
  have b__law_is_bool := F__law_is_bool.binds (ps := ["_law_actual", "_law_expected"]) fun _ _ _ _ _ _ us hl => match us, hl with | [_, _], _ => rfl
  have F__law_pairs_right := fun_mk (x := "_law_pairs_right") (qual := "_law_pairs_right") (st := s__law_pairs_right) l__law_pairs_right c__law_pairs_right k__law_pairs_right
  have b__law_pairs_right := F__law_pairs_right.binds (ps := ["_law_source_here", "_law_names_here"]) fun _ _ _ _ _ _ us hl => match us, hl with | [_, _], _ => rfl
  have F__law_least_right := fun_mk (x := "_law_least_right") (qual := "_law_least_right") (st := s__law_least_right) l__law_least_right c__law_least_right k__law_least_right
  have b__law_least_right := F__law_least_right.binds (ps := ["_law_clauses_here"]) fun _ _ _ _ _ _ us hl => match us, hl with | [_], _ => rfl
  have F__law_methods_right := fun_mk (x := "_law_methods_right") (qual := "_law_methods_right") (st := s__law_methods_right) l__law_methods_right c__law_methods_right k__law_methods_right
  have b__law_methods_right := F__law_methods_right.binds (ps := ["_law_source_here", "_law_names_here", "_law_clause_here"]) fun _ _ _ _ _ _ us hl => match us, hl with | [_, _, _], _ => rfl
  have F_law := fun_mk (x := "law") (qual := "law") (st := s_law) l_law c_law k_law
  have m_all := PySem.W.mg_none_of X G z_all
  have m_any := PySem.W.mg_none_of X G z_any
  have m_set := PySem.W.mg_none_of X G z_set
  have m_sorted := PySem.W.mg_none_of X G z_sorted
  have m_tuple := PySem.W.mg_none_of X G z_tuple
  have m_len := PySem.W.mg_none_of X G z_len
  have m_list := PySem.W.mg_none_of X G z_list
  have m_int := PySem.W.mg_none_of X G z_int
  have m_range := PySem.W.mg_none_of X G z_range
  have m_max := PySem.W.mg_none_of X G z_max
  have m_isinstance := PySem.W.mg_none_of X G z_isinstance
  have m_bool := PySem.W.mg_none_of X G z_bool
  have cl : Cls K C := ⟨pg, hd, po, sa⟩
  have B_Bits : Mk0.Bare K mg "Bits" C := ⟨mk, ini, kc, PySem.W.mg_of X G aC⟩
  have T0 : SupM.SupA K C C "is_valid" f_kind := ⟨⟨cdC, cdC_⟩, mC, sC, tg, fg, by decide +kernel⟩
  refine ⟨PySem.W.fnOf "law" "law" (defArgs s_law) (defBody s_law) (defScope s_law) .none kV_law dc_law pm_law an_law cd_law ct_law, fun s v => .of_eq rfl, fun base _ _ => ?_⟩
  have C_contains : Cal l.prog w K mg base "contains" 1 ["first", "second"] (spContains K) := ⟨_, _, ok_contains (F := F_contains) (m_all := m_all), PySem.W.mg_of X G a_contains, F_contains.kp, b_contains⟩
  have C__is_least : Cal l.prog w K mg base "_is_least" 2 ["clause", "clauses"] (spIsLeast K) := ⟨_, _, ok_is_least (F := F__is_least) (m_any := m_any) (C_contains := C_contains), PySem.W.mg_of X G a__is_least, F__is_least.kp, b__is_least⟩
  have C_least_clauses : Cal l.prog w K mg base "least_clauses" 3 ["clauses"] (spLeast K) := ⟨_, _, ok_least (F := F_least_clauses) (m_set := m_set) (m_sorted := m_sorted) (m_tuple := m_tuple) (C__is_least := C__is_least), PySem.W.mg_of X G a_least_clauses, F_least_clauses.kp, b_least_clauses⟩
  have C_resolvent : Cal l.prog w K mg base "resolvent" 1 ["first", "second", "name"] (spRes K) := ⟨_, _, ok_resolvent (F := F_resolvent) (m_len := m_len) (m_set := m_set) (m_sorted := m_sorted) (m_tuple := m_tuple), PySem.W.mg_of X G a_resolvent, F_resolvent.kp, b_resolvent⟩
  have C__clause_at : Cal l.prog w K mg base "_clause_at" 1 ["clauses", "index"] (spClAt K) := ⟨_, _, ok_clause_at (F := F__clause_at) (m_len := m_len), PySem.W.mg_of X G a__clause_at, F__clause_at.kp, b__clause_at⟩
  have C__derived : Cal l.prog w K mg base "_derived" 2 ["clauses", "before", "line"] (spDer K) := ⟨_, _, ok_derived (F := F__derived) (C__clause_at := C__clause_at) (C_resolvent := C_resolvent), PySem.W.mg_of X G a__derived, F__derived.kp, b__derived⟩
  have C_derive_lines : Cal l.prog w K mg base "derive_lines" 3 ["clauses", "certificate"] (spRun K) := ⟨_, _, ok_run (F := F_derive_lines) (m_tuple := m_tuple) (C__derived := C__derived), PySem.W.mg_of X G a_derive_lines, F_derive_lines.kp, b_derive_lines⟩
  have C_is_ascending : Cal l.prog w K mg base "is_ascending" 1 ["values"] (spAsc K) := ⟨_, _, ok_is_ascending (F := F_is_ascending) (m_list := m_list) (m_set := m_set) (m_sorted := m_sorted), PySem.W.mg_of X G a_is_ascending, F_is_ascending.kp, b_is_ascending⟩
  have M_names_in : MthC l.prog w K mg base C "names_in" 1 ["self", "constraint"] (spNIn K) := ⟨_, _, cl, ⟨a_Mnames_in, i_Mnames_in, k_Mnames_in⟩, ok_names_in (F := F_Mnames_in) (m_tuple := m_tuple), b_Mnames_in⟩
  have M_holds : MthC l.prog w K mg base C "holds" 1 ["self", "constraint", "assignment"] (spHolds K) := ⟨_, _, cl, ⟨a_Mholds, i_Mholds, k_Mholds⟩, ok_holds (F := F_Mholds) (m_any := m_any), b_Mholds⟩
  have F0 : FnR l.prog w K mg base CX0 2 f_kind (spKV K C) := FnR.imp (FnOk.raw (ok_kind_valid (C := C) (F := F_kind) (m_all := m_all) (M_names_in := M_names_in)) b_kind .nil) fun vs H Q E h => by rw [List.append_nil]; exact h
  have M_is_valid : MthC l.prog w K mg base C "is_valid" 4 ["self", "names", "constraint"] (spSV K C) := ⟨fV, _, cl, ⟨i_V, iV, kV_⟩, ok_valid m_all C_is_ascending M_names_in l_V c_V ⟨clV, cldV, cslV, l_ccV⟩ ⟨cclV, cddV, vsV, ccsV, fileV, tfV, l_cdaV, v_cdaV, p_fileV⟩ p_top (PySem.W.mg_none_of X G z_super) any_ T0 F0, Binds.all fun us hl => match us, hl with | [_, _, _], _ => rfl⟩
  have C__law_source : Cal l.prog w K mg base "_law_source" 1 ["_law_script", "_law_k"] (spSource K) := ⟨_, _, ok_source (F := F__law_source) (m_len := m_len) (m_int := m_int), PySem.W.mg_of X G a__law_source, F__law_source.kp, b__law_source⟩
  have C__law_draw : Cal l.prog w K mg base "_law_draw" 1 ["_law_source_here", "_law_limit"] spDraw := ⟨_, _, ok_draw (F := F__law_draw) (m_int := m_int), PySem.W.mg_of X G a__law_draw, F__law_draw.kp, b__law_draw⟩
  have C__law_names : Cal l.prog w K mg base "_law_names" 2 ["_law_source_here", "_law_most"] (spNames K) := ⟨_, _, ok_names (F := F__law_names) (m_range := m_range) (m_len := m_len) (m_tuple := m_tuple) (m_sorted := m_sorted) (C__law_draw := C__law_draw), PySem.W.mg_of X G a__law_names, F__law_names.kp, b__law_names⟩
  have C__law_clause : Cal l.prog w K mg base "_law_clause" 2 ["_law_source_here", "_law_names_here"] (spClause K) := ⟨_, _, ok_clause (F := F__law_clause) (m_tuple := m_tuple) (C__law_draw := C__law_draw), PySem.W.mg_of X G a__law_clause, F__law_clause.kp, b__law_clause⟩
  have C__law_clauses : Cal l.prog w K mg base "_law_clauses" 3 ["_law_source_here", "_law_names_here"] (spClauses K) := ⟨_, _, ok_clauses (F := F__law_clauses) (m_range := m_range) (m_len := m_len) (C__law_draw := C__law_draw) (C__law_clause := C__law_clause), PySem.W.mg_of X G a__law_clauses, F__law_clauses.kp, b__law_clauses⟩
  have C__law_within : Cal l.prog w K mg base "_law_within" 1 ["_law_first", "_law_second"] (spWithin K) := ⟨_, _, ok_within (F := F__law_within) , PySem.W.mg_of X G a__law_within, F__law_within.kp, b__law_within⟩
  have C__law_cut : Cal l.prog w K mg base "_law_cut" 1 ["_law_first", "_law_second", "_law_name"] (spCut K) := ⟨_, _, ok_cut (F := F__law_cut) (m_tuple := m_tuple) (m_sorted := m_sorted), PySem.W.mg_of X G a__law_cut, F__law_cut.kp, b__law_cut⟩
  have C__law_step : Cal l.prog w K mg base "_law_step" 2 ["_law_clauses_here", "_law_found", "_law_step_here"] (spStep K) := ⟨_, _, ok_step (F := F__law_step) (m_len := m_len) (C__law_cut := C__law_cut), PySem.W.mg_of X G a__law_step, F__law_step.kp, b__law_step⟩
  have C__law_replayed : Cal l.prog w K mg base "_law_replayed" 3 ["_law_clauses_here", "_law_steps_here"] (spRep K) := ⟨_, _, ok_replayed (F := F__law_replayed) (m_tuple := m_tuple) (C__law_step := C__law_step), PySem.W.mg_of X G a__law_replayed, F__law_replayed.kp, b__law_replayed⟩
  have C__law_steps : Cal l.prog w K mg base "_law_steps" 3 ["_law_source_here", "_law_names_here", "_law_clauses_here"] (spSteps K) := ⟨_, _, ok_steps (F := F__law_steps) (m_range := m_range) (m_len := m_len) (m_max := m_max) (C__law_draw := C__law_draw) (C__law_cut := C__law_cut) (C__law_step := C__law_step), PySem.W.mg_of X G a__law_steps, F__law_steps.kp, b__law_steps⟩
  have C__law_spoilt : Cal l.prog w K mg base "_law_spoilt" 2 ["_law_source_here", "_law_names_here", "_law_clauses_here", "_law_steps_here"] (spSpoilt K) := ⟨_, _, ok_spoilt (F := F__law_spoilt) (m_len := m_len) (m_max := m_max) (C__law_draw := C__law_draw), PySem.W.mg_of X G a__law_spoilt, F__law_spoilt.kp, b__law_spoilt⟩
  have C__law_is_bool : Cal l.prog w K mg base "_law_is_bool" 1 ["_law_actual", "_law_expected"] spIsB := ⟨_, _, ok_is_bool (F := F__law_is_bool) (m_isinstance := m_isinstance) (m_bool := m_bool), PySem.W.mg_of X G a__law_is_bool, F__law_is_bool.kp, b__law_is_bool⟩
  have C__law_pairs_right : Cal l.prog w K mg base "_law_pairs_right" 3 ["_law_source_here", "_law_names_here"] (spPairs K) := ⟨_, _, ok_pairs (F := F__law_pairs_right) (m_len := m_len) (m_tuple := m_tuple) (m_sorted := m_sorted) (m_isinstance := m_isinstance) (C__law_draw := C__law_draw) (C__law_clause := C__law_clause) (C__law_cut := C__law_cut) (C_resolvent := C_resolvent), PySem.W.mg_of X G a__law_pairs_right, F__law_pairs_right.kp, b__law_pairs_right⟩
  have C__law_least_right : Cal l.prog w K mg base "_law_least_right" 4 ["_law_clauses_here"] (spLeastR K) := ⟨_, _, ok_least_right (F := F__law_least_right) (m_len := m_len) (m_list := m_list) (m_tuple := m_tuple) (m_sorted := m_sorted) (m_isinstance := m_isinstance) (C__law_within := C__law_within) (C__law_is_bool := C__law_is_bool) (C_contains := C_contains) (C_least_clauses := C_least_clauses), PySem.W.mg_of X G a__law_least_right, F__law_least_right.kp, b__law_least_right⟩
  have C__law_methods_right : Cal l.prog w K mg base "_law_methods_right" 6 ["_law_source_here", "_law_names_here", "_law_clause_here"] (spMeth K) := ⟨_, _, ok_methods (F := F__law_methods_right) (m_len := m_len) (m_range := m_range) (m_int := m_int) (m_tuple := m_tuple) (m_sorted := m_sorted) (C__law_draw := C__law_draw) (C__law_is_bool := C__law_is_bool) (B_Bits := B_Bits) (M_names_in := M_names_in) (M_holds := M_holds) (M_is_valid := M_is_valid), PySem.W.mg_of X G a__law_methods_right, F__law_methods_right.kp, b__law_methods_right⟩
  exact ok_law F_law (m_tuple := m_tuple) (m_isinstance := m_isinstance) (C__law_source := C__law_source) (C__law_names := C__law_names) (C__law_clauses := C__law_clauses) (C__law_least_right := C__law_least_right) (C__law_pairs_right := C__law_pairs_right) (C__law_steps := C__law_steps) (C__law_spoilt := C__law_spoilt) (C__law_replayed := C__law_replayed) (C_derive_lines := C_derive_lines) (C__law_methods_right := C__law_methods_right)
end K08
open PySem PySem.W PyProof.Rows
set_option maxRecDepth 100000 in
set_option maxHeartbeats 0 in
theorem PySem.Challenge.cw_shadowlinks_k08_clauses_and_cuts_holds : PySem.Challenge.rw_shadowlinks_k08_clauses_and_cuts.Holds := by
  w_on; o_law; k_head; (case hw => w_witness2)
  k_fill
  refine L2.walk_of (l := PySem.Challenge.rw_shadowlinks_k08_clauses_and_cuts) (n := 63) (k := 8) (x := "_law_script") (CX := fun _ => L2.CX0) (sp := fun w => K08.spLaw _) rfl (by decide) rfl ⟨rfl, by decide, by decide⟩ (fun w h Y => PySem.W.kIn_of Y) ?F (fun _ _ a ns hl _ hS => ⟨a, ns, rfl, hS, hl, fun _ => rfl⟩) (fun _ _ _ _ _ h => h)
  case F =>
    intro w mg fa h KX G hmg
    refine' K08.all_mk KX G hmg ?aC ?aK ?pg ?hd ?po ?sa ?mk ?kc ?ini ?p_top ?z_super ?any_ ?a_kind ?l_kind ?c_kind ?k_kind ?cdC_ ?mC ?sC ?tg ?fg ?i_V ?l_V ?c_V ?l_ccV ?l_cdaV ?v_cdaV ?p_fileV ?iV ?kV_ ?a_Mnames_in ?l_Mnames_in ?c_Mnames_in ?k_Mnames_in ?i_Mnames_in ?a_Mholds ?l_Mholds ?c_Mholds ?k_Mholds ?i_Mholds ?a_contains ?l_contains ?c_contains ?k_contains ?a__is_least ?l__is_least ?c__is_least ?k__is_least ?a_least_clauses ?l_least_clauses ?c_least_clauses ?k_least_clauses ?a_resolvent ?l_resolvent ?c_resolvent ?k_resolvent ?a__clause_at ?l__clause_at ?c__clause_at ?k__clause_at ?a__derived ?l__derived ?c__derived ?k__derived ?a_derive_lines ?l_derive_lines ?c_derive_lines ?k_derive_lines ?a_is_ascending ?l_is_ascending ?c_is_ascending ?k_is_ascending ?a__law_source ?l__law_source ?c__law_source ?k__law_source ?a__law_draw ?l__law_draw ?c__law_draw ?k__law_draw ?a__law_names ?l__law_names ?c__law_names ?k__law_names ?a__law_clause ?l__law_clause ?c__law_clause ?k__law_clause ?a__law_clauses ?l__law_clauses ?c__law_clauses ?k__law_clauses ?a__law_within ?l__law_within ?c__law_within ?k__law_within ?a__law_cut ?l__law_cut ?c__law_cut ?k__law_cut ?a__law_step ?l__law_step ?c__law_step ?k__law_step ?a__law_replayed ?l__law_replayed ?c__law_replayed ?k__law_replayed ?a__law_steps ?l__law_steps ?c__law_steps ?k__law_steps ?a__law_spoilt ?l__law_spoilt ?c__law_spoilt ?k__law_spoilt ?a__law_is_bool ?l__law_is_bool ?c__law_is_bool ?k__law_is_bool ?a__law_pairs_right ?l__law_pairs_right ?c__law_pairs_right ?k__law_pairs_right ?a__law_least_right ?l__law_least_right ?c__law_least_right ?k__law_least_right ?a__law_methods_right ?l__law_methods_right ?c__law_methods_right ?k__law_methods_right ?a_law ?l_law ?c_law ?k_law ?z_all ?z_any ?z_set ?z_sorted ?z_tuple ?z_len ?z_list ?z_int ?z_range ?z_max ?z_isinstance ?z_bool
    (case aC => k_is)
    (case aK => k_is)
    (case pg => k_is)
    (case hd => k_is)
    (case po => k_is)
    (case sa => k_is)
    (case mk => k_is)
    (case kc => k_is)
    (case ini => k_is)
    (case p_top => rfl)
    (case z_super => k_is)
    (case any_ => k_is)
    (case a_kind => k_is)
    (case l_kind => k_is)
    (case c_kind => k_is)
    (case k_kind => k_is)
    (case cdC_ => k_is)
    (case mC => k_is)
    (case sC => ks_is)
    (case tg => k_is)
    (case fg => k_is)
    (case i_V => k_is)
    (case l_V => k_is)
    (case c_V => k_is)
    (case l_ccV => k_is)
    (case l_cdaV => k_is)
    (case v_cdaV => rfl)
    (case p_fileV => rfl)
    (case iV => k_is)
    (case kV_ => k_is)
    (case a_Mnames_in => k_is)
    (case l_Mnames_in => k_is)
    (case c_Mnames_in => k_is)
    (case k_Mnames_in => k_is)
    (case i_Mnames_in => k_is)
    (case a_Mholds => k_is)
    (case l_Mholds => k_is)
    (case c_Mholds => k_is)
    (case k_Mholds => k_is)
    (case i_Mholds => k_is)
    (case a_contains => k_is)
    (case l_contains => k_is)
    (case c_contains => k_is)
    (case k_contains => k_is)
    (case a__is_least => k_is)
    (case l__is_least => k_is)
    (case c__is_least => k_is)
    (case k__is_least => k_is)
    (case a_least_clauses => k_is)
    (case l_least_clauses => k_is)
    (case c_least_clauses => k_is)
    (case k_least_clauses => k_is)
    (case a_resolvent => k_is)
    (case l_resolvent => k_is)
    (case c_resolvent => k_is)
    (case k_resolvent => k_is)
    (case a__clause_at => k_is)
    (case l__clause_at => k_is)
    (case c__clause_at => k_is)
    (case k__clause_at => k_is)
    (case a__derived => k_is)
    (case l__derived => k_is)
    (case c__derived => k_is)
    (case k__derived => k_is)
    (case a_derive_lines => k_is)
    (case l_derive_lines => k_is)
    (case c_derive_lines => k_is)
    (case k_derive_lines => k_is)
    (case a_is_ascending => k_is)
    (case l_is_ascending => k_is)
    (case c_is_ascending => k_is)
    (case k_is_ascending => k_is)
    (case a__law_source => k_is)
    (case l__law_source => k_is)
    (case c__law_source => k_is)
    (case k__law_source => k_is)
    (case a__law_draw => k_is)
    (case l__law_draw => k_is)
    (case c__law_draw => k_is)
    (case k__law_draw => k_is)
    (case a__law_names => k_is)
    (case l__law_names => k_is)
    (case c__law_names => k_is)
    (case k__law_names => k_is)
    (case a__law_clause => k_is)
    (case l__law_clause => k_is)
    (case c__law_clause => k_is)
    (case k__law_clause => k_is)
    (case a__law_clauses => k_is)
    (case l__law_clauses => k_is)
    (case c__law_clauses => k_is)
    (case k__law_clauses => k_is)
    (case a__law_within => k_is)
    (case l__law_within => k_is)
    (case c__law_within => k_is)
    (case k__law_within => k_is)
    (case a__law_cut => k_is)
    (case l__law_cut => k_is)
    (case c__law_cut => k_is)
    (case k__law_cut => k_is)
    (case a__law_step => k_is)
    (case l__law_step => k_is)
    (case c__law_step => k_is)
    (case k__law_step => k_is)
    (case a__law_replayed => k_is)
    (case l__law_replayed => k_is)
    (case c__law_replayed => k_is)
    (case k__law_replayed => k_is)
    (case a__law_steps => k_is)
    (case l__law_steps => k_is)
    (case c__law_steps => k_is)
    (case k__law_steps => k_is)
    (case a__law_spoilt => k_is)
    (case l__law_spoilt => k_is)
    (case c__law_spoilt => k_is)
    (case k__law_spoilt => k_is)
    (case a__law_is_bool => k_is)
    (case l__law_is_bool => k_is)
    (case c__law_is_bool => k_is)
    (case k__law_is_bool => k_is)
    (case a__law_pairs_right => k_is)
    (case l__law_pairs_right => k_is)
    (case c__law_pairs_right => k_is)
    (case k__law_pairs_right => k_is)
    (case a__law_least_right => k_is)
    (case l__law_least_right => k_is)
    (case c__law_least_right => k_is)
    (case k__law_least_right => k_is)
    (case a__law_methods_right => k_is)
    (case l__law_methods_right => k_is)
    (case c__law_methods_right => k_is)
    (case k__law_methods_right => k_is)
    (case a_law => k_is)
    (case l_law => k_is)
    (case c_law => k_is)
    (case k_law => k_is)
    (case z_all => k_is)
    (case z_any => k_is)
    (case z_set => k_is)
    (case z_sorted => k_is)
    (case z_tuple => k_is)
    (case z_len => k_is)
    (case z_list => k_is)
    (case z_int => k_is)
    (case z_range => k_is)
    (case z_max => k_is)
    (case z_isinstance => k_is)
    (case z_bool => k_is)
#print axioms PySem.Challenge.cw_shadowlinks_k08_clauses_and_cuts_holds
