import PyProof.Rows.All
import Wide.All
import OpenK.AllK
import Wide.FinOn
import HandS.ExcInit
import HandS.Nested
import KE.KExcSuper
import HandS.ForExc
import PyProof.Rows.SortShellAny
import HandS.SetTxt0
import HandS.TupSets
import HandS.ForMost
import HandS.Walk
import HandS.IsInst
import HandS.IterVal
import HandS.Star
import HandS.Deep
import HandS.DictComp
import HandS.Zip
import HandS.ExcField
import HandS.ExcIs
import KE.KExcIs
import HandS.WordsExc
import HandS.FStr
import HandS.Defaults
import HandS.CallSlots
import HandS.Wide
import HandS.Style
import HandS.OwnEq
import HandS.Property
import OpenK.KMeth
import OpenK.KOps
import KE.KOpsOwn
import KE.KOwnIter
import KE.KDictPairs
import HandS.Gcd
import HandS.ClsMeth
import HandS.TupMul
import HandS.SetFor
import HandS.TupAny
import KE.DataFind
import HandS.TryMany
import HandS.OwnIter
import HandS.Iter
import HandS.Comp
import HandS.Dict
import KE.KDictKeyed
import KE.SortData
import KE.KeyNested
import PyProof.SetRoads
import HandS.ExcValue
import HandS.ExcOwn
import PyProof.TupleOfSeq
import HandS.Conv
import KE.KDictSum
import HandS.Strs
import HandS.WideBits
import HandS.CallRecv
import PySem.Challenge.RW_shadowlinks_k10_bits_normal_forms
set_option Elab.async false
set_option linter.all false
set_option maxRecDepth 100000
/-! An own exception's __init__ that begins with super().__init__(e), over ValueError. -/
namespace Sup
open PySem PySem.Spec PyProof.Rows L2 NdefX
abbrev vei : String := "ValueError.__init__"
def mwO (u a : Addr) : HO := .ext fun h => h.get? u = some (PySem.W.kxs_mw vei a)
theorem mwO_ok {P : Program} {w : World} {H : Hp} {h : Heap} {u a : Addr} (e : h.get? u = some (PySem.W.kxs_mw vei a)) : ObjOk P w H h u (mwO u a) := ⟨e, ⟨_, e⟩, fun h1 h2 z k => k _ z⟩
theorem mwO_at {P : Program} {w : World} {H : Hp} {h : Heap} {u a : Addr} (hok : HOk P w H h) (e : H u = some (mwO u a)) : h.get? u = some (PySem.W.kxs_mw vei a) := by
  have x : ObjOk P w H h u (.ext fun h => h.get? u = some (PySem.W.kxs_mw vei a)) := hok u _ e
  exact x.1
/-- what the written part says of a def that says super() -/
structure SupF (P : Program) (K : PySem.W.Frag) (mg : Str → Option Value) (env : Env) (sn : Str) (D : Addr) : Prop where
  ks : env.kindOf "super" = some .globalImplicit
  kc : env.kindOf "__class__" = some .free
  fn : ∃ (f : Addr) (oc : Value) (od : Option Addr) (fd : FuncData) (osl : Array (Option Value)) (ar : Arg), env.func = some f ∧ K.lookup f = some ⟨oc, od, .func fd, osl⟩ ∧ (fd.params.posonlyargs ++ fd.params.args).head? = some ar ∧ ar.arg = sn
  co : ∃ (cda : Addr) (ccl : Value) (cdd : Option Addr) (vs : Array Value) (ccs : Array (Option Value)) (file : Str) (tf : Tok), env.code = .ref cda ∧ K.lookup cda = some ⟨ccl, cdd, .fields vs, ccs⟩ ∧ vs[2]? = some (.str file tf) ∧ ((P.main.file : Str) == file) = true
  top : (P.main.scope.names.lookup ("super" : Str)).isSome = false
  ce : ∃ (cc : Addr) (cl : Value) (cld : Option Addr) (csl : Array (Option Value)), env.cells.lookup ("__class__" : Str) = some cc ∧ K.lookup cc = some ⟨cl, cld, .cell (some (.ref D)), csl⟩
  mg : mg "super" = none
  any : PySem.W.nsIn K cStatics "thirdparty.any" = some none
  it : interactive env = false
  ka : env.kindOf sn = some .local
/-- .. and of the class of the object -/
structure SupC (K : PySem.W.Frag) (C D : Addr) : Prop where
  cls : ∃ cd, PySem.W.clsIn K D = some cd
  sub : PySem.W.mroIn K C (.ref D) = some true
  sup : PySem.W.ks_superIn K C D "__init__" = some (some (.builtin vei))
  ve : PySem.W.subIn K (.ref C) (.type "ValueError") = some true
  exc : OexC K C
section
variable {X : Cx} {pins : List (Addr × Obj)} {σ : List (Option V)} {H : Hp} {s : Shared} {self : Str} {D a C : Addr} {body : List Stmt} {p0 p1 p2 pos pos' : Pos} {e : Expr} {te : TE}
theorem ld_super {E : Value → Shared → Prop} {Q : Value → Shared → Prop} (I : Inv X pins σ H s) (S : SupF X.prog X.K X.mg X.env self D) (h : Q (.type "super") s) : wpAny (model X.prog X.w) X.A (loadName X.env "super") Q E s := by
  obtain ⟨mb, h1, h2⟩ := I.mod.blt
  exact PySem.W.ks_loadName_global I.ok.kind S.ks (Calls.loadGlobal_builtin (by rw [I.ok.glob]; exact I.mod.glob.keeps I.bk) S.mg (by rw [I.ok.blt]; exact h1.keeps I.bk) ((h2 _ (by decide)).trans (by rfl)) h)
theorem self_at (I : Inv X pins σ H s) {u : V} (h1 : X.N[0]? = some self) (h2 : σ[0]? = some (some u)) (hk : X.env.kindOf self = some .local) : ∃ m v, s.heap.Ns X.env.locals m ∧ m self = some v ∧ RelV u v := by
  obtain ⟨m, hn, hl⟩ := I.loc
  obtain ⟨v, r, k⟩ := hl 0 self u h1 h2 (.inl hk)
  rcases k with ⟨_, k⟩ | ⟨k, _⟩
  · exact ⟨m, v, hn, k, r⟩
  · rcases k with k | k <;> · rw [hk] at k; cases k
theorem exo_inst {C a : Addr} (T : OexC X.K C) (I : Inv X pins σ H s) (e : H a = some (exo a C none)) : ∃ t1 : Addr, PySem.W.InstAt s.heap a { cls := .ref C, dict := none, data := .fields #[.ref t1, .none, .none, .none, .bool false, .none] } C none := by
  obtain ⟨t1, ho⟩ := exo_at I.hok e
  exact ⟨t1, ho, rfl, rfl, trivial⟩
/-- the wrapper called -/
theorem call_mw {u : Addr} {us : List Value} {Q : Value → Shared → Prop} {E : Value → Shared → Prop} {A : Around} (T : OexC X.K C) (I : Inv X pins σ H s) (eu : H u = some (mwO u a)) (ea : H a = some (exo a C none)) (hl : us.length ≤ sizeLine) (h : ∀ s', Inv X pins σ H s' → Q .none s') :
    wpAny (model X.prog X.w) A (call (.ref u) us) Q E s := by
  obtain ⟨nm, q, N, bs, bm, sn, sub, ab, col, dd, k0, k1, k2, k3, k5, hC, hbm⟩ := T.cls
  obtain ⟨t1, ho⟩ := exo_at I.hok ea
  have hu := mwO_at I.hok eu
  have hCh := I.kIn _ _ hC
  have FB := F.excBase_ValueError
  obtain ⟨hp, g, d, t, os⟩ := s
  refine wpAny_call (codeAny_of_tree ?_)
  show wpAny _ A.in1 (callAny (.ref u) ⟨us, []⟩) _ _ _
  simp only [callAny]
  refine wpAny_bind (wpAny_load hu ?_)
  simp only [PySem.W.kxs_mw, show (Value.type "method-wrapper" == Value.type "method" || Value.type "method-wrapper" == Value.type "builtin_function_or_method" || Value.type "method-wrapper" == Value.type "method-wrapper") = true by decide, if_true]
  refine PySem.W.KFB.if_so (by decide) ?_
  refine wpAny_bind (PySem.W.check_bound_init FB.toExcCallFacts hCh ho rfl ?_)
  refine wpAny_bind (wpAny_pure (wpAny_pure ?_))
  refine ⟨plainId_quiet FB.init.plain _, codeAny_builtin FB.initEntry ?_⟩
  refine PySem.W.exc_init_tree (cls := .ref C) (t0 := t1) (dv := none) (c2 := .none) (c3 := .none) (b4 := .bool false) ho hl fun h' k hx _ => ?_
  have J := I.write (t' := t) (x := a) (e := a) (o := exo a C none) (by rw [ea]; exact True.intro) (.inl rfl) k ⟨_, hx⟩ (exo_ok hx)
  have eu2 : upd H a (exo a C none) = H := by
    funext b
    by_cases hb : b = a
    · rw [hb, upd_same, ea]
    · rw [upd_ne hb]
  rw [eu2] at J
  exact h _ J
theorem sup_stmt {es : List Expr} {pl : Sem Bool} {ta : TA} {G : Hp → Prop} {Q : Flow → Shared → Prop} (I : Inv X pins σ H s) (S : SupF X.prog X.K X.mg X.env self D) (T : SupC X.K C D) (hN : X.N[0]? = some self) (h0 : σ[0]? = some (some (.ref a))) (ea : H a = some (exo a C none)) (ha : PA X (e :: es) ta)
    (h : ∀ u, H u = none → ta σ (upd H u (mwO u a)) fun vs H2 => vs.length ≤ 1000 ∧ H2 u = some (mwO u a) ∧ H2 a = some (exo a C none) ∧ G H2) (hq : ∀ H2 s', Inv X pins σ H2 s' → G H2 → Q .next s')
    (hev : eval (.Call (.Attribute (.Call (.Name "super" p0) [] [] p1) "__init__" p2) (e :: es) [] pos) X.env = (do
      let ov ← attributeBase (.Call (.Name "super" p0) [] [] p1) "__init__" X.env (eval (.Call (.Name "super" p0) [] [] p1) X.env)
      standAt p2.atName
      let (f, first) ← holding [ov] (getMethod ov "__init__" pl)
      callWith pos f first (backTo pos (starEach (e :: es) X.env)) []) := by rfl)
    (he : starEach (e :: es) X.env = (false, eval e X.env) :: starEach es X.env := by rfl) (hpl : (backTo pos (starEach es X.env)).any (·.1) = false := by rfl) :
    _root_.PySem.wpAt (model X.prog X.w) X.A (.func body X.env) (exec (.Expr (.Call (.Attribute (.Call (.Name "super" p0) [] [] p1) "__init__" p2) (e :: es) [] pos) pos') X.env) Q X.xe s := by
  refine ks_wpAt_Expr_any ?_ S.it
  refine ks_wpAt_MethodCall ?_ hev
  obtain ⟨f, oc, od, fd, osl, ar, hfu, lf, hp, har⟩ := S.fn
  obtain ⟨cda, ccl, cdd, vs, ccs, file, tf, hco, lc, hvs, hfile⟩ := S.co
  obtain ⟨cc, cl, cld, csl, hcl, lcc⟩ := S.ce
  obtain ⟨m, v, hn, hv, rv⟩ := self_at I hN h0 S.ka
  obtain rfl : v = Value.ref a := rv
  obtain ⟨t1, inst⟩ := exo_inst T.exc I ea
  obtain ⟨cdD, hD⟩ := T.cls
  have XK := I.kIn
  obtain ⟨oD, hD1, hD2⟩ : ∃ oD, s.heap.get? D = some oD ∧ oD.data = .cls cdD := by
    unfold PySem.W.clsIn at hD
    split at hD
    · rename_i c d cd' sl ho
      cases hD
      exact ⟨_, XK _ _ ho, rfl⟩
    · cases hD
  refine ks_wpAt_super_base S.ks S.kc (by decide) hfu (XK _ _ lf) rfl hp hco (XK _ _ lc) rfl hvs hfile S.top ?_
  refine ld_super I S ⟨rfl, ?_⟩
  refine wpAny_loadName_free I.ok.kind S.kc hcl ⟨_, XK _ _ lcc, rfl⟩ ?_
  refine wpAny_loadName_local I.ok.kind (har ▸ S.ka) hn (har ▸ hv) ?_
  refine ks_wpAny_isType_cls hD1 hD2 ⟨rfl, ?_⟩
  obtain ⟨hp0, g, d, t, os⟩ := s
  refine ks_wpAny_call_super hD1 hD2 inst.at_ rfl (fun c e => by cases e) (PySem.W.looks_mroIn XK T.sub) fun h' eso k => ?_
  have I2 : Inv X pins σ H ⟨h', g, d, t, os⟩ := I.kept (t' := t) k
  have XK2 := I2.kIn
  have sup := T.sup
  unfold PySem.W.ks_superIn at sup
  cases hc : PySem.W.clsIn X.K C with
  | none =>
    rw [hc] at sup
    cases sup
  | some cd =>
    rw [hc] at sup
    obtain ⟨t2, inst2⟩ := exo_inst T.exc I2 ea
    refine PySem.W.kxs_getMethod PySem.W.kxs_ValueError eso (PySem.W.looks_opaque XK2 S.any) (l₀ := cd.mro) ?_ rfl XK2 sup (inst2.type.andThen (PySem.W.looks_subIn XK2 T.ve)) (PySem.W.ks_ne XK2 inst2 hc) (by decide) ?_
    · exact fun A Q E s k q => wpAny_bind ((PySem.W.looks_clsIn XK2 hc) A _ E s k (wpAny_pure q))
    · have hnu : H h'.objs.size = none := I2.hok.fresh (Nat.le_refl _)
      have gu : (h'.push (PySem.W.kxs_mw vei a)).get? h'.objs.size = some (PySem.W.kxs_mw vei a) := Heap.get?_push_at rfl rfl
      have I3 : Inv X pins σ (upd H h'.objs.size (mwO h'.objs.size a)) ⟨h'.push (PySem.W.kxs_mw vei a), g, d, t + 1, os⟩ :=
        I2.laid (t' := t + 1) (fun b o e => Heap.get?_push_of_some _ e) (Nat.le_refl _) (mwO_ok gu)
      show wpAny _ _ (callWith pos (.ref h'.objs.size) [] (backTo pos (starEach (e :: es) X.env)) []) _ _ _
      have run := ha.run pos pins _ σ _ _ I3 (h _ hnu)
      rw [he] at run ⊢
      refine PySem.W.kxs_callWith (i := vei) (x := a) (by show (false || (backTo pos (starEach es X.env)).any (·.1)) = false; rw [hpl]; rfl) ?_
      refine Calls.evalArgs_plain (thn run fun us s1 ⟨vs, H1, I1, r1, hz, eu, ea1, hG⟩ => ⟨mwO_at I1.hok eu, ?_⟩)
      exact call_mw T.exc I1 eu ea1 (by show us.length ≤ _; rw [← Paired.length r1, sizeLine_eq]; omega) fun s' J => hq H1 s' J hG
end
section
variable {CX : CXT} {P : Program} {w : World} {K : PySem.W.Frag} {mg : Str → Option Value} {base : Heap} {k : Nat} {F : NF} {f cc D : Addr} {kV doc pm ct oc : Value} {an od : Option Addr} {osl : Array (Option Value)} {N ps : List Str} {sp : Sp} {self : Str} {e : Expr} {es : List Expr} {p0 p1 p2 pos pos' : Pos} {rest : List Stmt} {pl : Sem Bool}
theorem fn_sup (lk : K.lookup f = some ⟨oc, od, .func (PySem.W.fnX F.name F.qual F.params F.body F.scope F.cl .none kV doc pm an (.ref F.c) ct), osl⟩) (hcd : PySem.W.codeIn K (.ref F.c) F.qual = true) (hcl : F.cl = [(("__class__" : Str), cc)])
    (hcc : ∃ cl cld csl, K.lookup cc = some ⟨cl, cld, .cell (some (.ref D)), csl⟩) (S : NScope N ps ["__class__"] F.scope) (hF : ∀ L, SupF P K mg (envF F f L) self D) (hN : N[0]? = some self)
    (hbd : F.body = .Expr (.Call (.Attribute (.Call (.Name "super" p0) [] [] p1) "__init__" p2) (e :: es) [] pos) pos' :: rest)
    (len : ∀ vs H Q E, sp vs H Q E → vs.length = ps.length)
    (hbody : ∀ (A : Around) (outer : List Env) (s : Shared) (H : Hp) (vs : List V) (Q : VK) (E : XK), Room k (A.deeper (envF F f s.heap.objs.size)) → sp vs H Q E →
      ∃ (a C : Addr) (ta : TA) (t : TS), SupC K C D ∧ (startF N vs [none])[0]? = some (some (.ref a)) ∧ H a = some (exo a C none) ∧ PA (ncx CX P w K mg base N F f A outer s H E) (e :: es) ta ∧ PSs (ncx CX P w K mg base N F f A outer s H E) rest t ∧
        ∀ u, H u = none → ta (startF N vs [none]) (upd H u (mwO u a)) fun vs' H2 => vs'.length ≤ 1000 ∧ H2 u = some (mwO u a) ∧ H2 a = some (exo a C none) ∧ t { nx := fun _ H' => Q .non H', rt := Q } (startF N vs [none]) H2)
    (hev : ∀ L, eval (.Call (.Attribute (.Call (.Name "super" p0) [] [] p1) "__init__" p2) (e :: es) [] pos) (envF F f L) = (do
      let ov ← attributeBase (.Call (.Name "super" p0) [] [] p1) "__init__" (envF F f L) (eval (.Call (.Name "super" p0) [] [] p1) (envF F f L))
      standAt p2.atName
      let (g, first) ← holding [ov] (getMethod ov "__init__" pl)
      callWith pos g first (backTo pos (starEach (e :: es) (envF F f L))) []) := by intro L; rfl)
    (he : ∀ L, starEach (e :: es) (envF F f L) = (false, eval e (envF F f L)) :: starEach es (envF F f L) := by intro L; rfl) (hpl : ∀ L, (backTo pos (starEach es (envF F f L))).any (·.1) = false := by intro L; rfl) :
    FnOk P w K mg base CX (k + 1) f (PySem.W.fnX F.name F.qual F.params F.body F.scope F.cl .none kV doc pm an (.ref F.c) ct) ps sp := by
  refine ⟨len, fun A outer s H args us vs Q E hr e0 hb r hsp => ?_⟩
  have hl := len _ _ _ _ hsp
  have KX : K.In s.heap := e0.mod.kin.keeps fun b o e => (e0.bs b o e).1
  have lim : s.heap.NoLimit := e0.mod.nolimit.keeps fun b o e => (e0.bs b o e).1
  obtain ⟨cl, cld, csl, hcc⟩ := hcc
  have C : CellsAt F.cl ["__class__"] [none] s.heap H := by
    have one : ∀ {y : Str} {c : Addr}, F.cl.lookup y = some c → y = "__class__" ∧ c = cc := fun {y c} e => by
      rw [hcl] at e
      by_cases h : y = ("__class__" : Str)
      · subst h
        have e2 : some cc = some c := e
        exact ⟨rfl, (Option.some.inj e2).symm⟩
      · have h2 : (y == ("__class__" : Str)) = false := by simpa using h
        rw [List.lookup_cons, h2] at e
        cases e
    refine ⟨rfl, fun y c e => ?_, fun x y c e1 e2 => (one e1).1.trans (one e2).1.symm, fun i y hi => ?_⟩
    · rw [(one e).2]
      exact ⟨(e0.bs _ _ (e0.mod.kin _ _ hcc)).2, _, ⟨_, KX _ _ hcc, rfl⟩⟩
    · cases i with
      | zero =>
        have e : ("__class__" : Str) = y := Option.some.inj hi
        refine ⟨cc, by rw [hcl, ← e]; rfl, fun v hv => ?_⟩
        cases hv
      | succ i => cases hi
  refine ks_codeAny_call_defAt hr.depth (KX _ _ lk) rfl lim (PySem.W.codeRec_of KX hcd) rfl hb S.nocell (fun ⟨n, v⟩ hy => S.par n (List.of_mem_zip hy).1) (fun h₁ hns kp => ?_) S.co S.gen S.kind
  show _root_.PySem.wpAt (model P w) (A.deeper (envF F f s.heap.objs.size)) (.func F.body (envF F f s.heap.objs.size)) (execs F.body (envF F f s.heap.objs.size)) _ _ _
  obtain ⟨a, Ca, ta, t, hC, h0, ea, pa, ps', hq⟩ := hbody A outer s H vs Q E (hr.deeper _) hsp
  have I : Inv (ncx CX P w K mg base N F f A outer s H E) [] (startF N vs [none]) H { s with heap := h₁, toks := s.toks + (ps.zip us).length } := inv_startN S hr.hd e0 hl r C hns kp
  have fin : ∀ {s' : Shared} {σ' : L2.St} {H' : Hp} {v : V} {u : Value}, Inv (ncx CX P w K mg base N F f A outer s H E) [] σ' H' s' → L2.RelV v u → Q v H' → CE outer P w H s Q u s' :=
    fun {s' σ' H' v u} J rv q => ⟨v, H', J.os, J.bare, J.base, J.hok, rv, q⟩
  have main : ∀ (body : List Stmt), _root_.PySem.wpAt (model P w) (A.deeper (envF F f s.heap.objs.size)) (.func body (envF F f s.heap.objs.size)) (execs (.Expr (.Call (.Attribute (.Call (.Name "super" p0) [] [] p1) "__init__" p2) (e :: es) [] pos) pos' :: rest) (envF F f s.heap.objs.size))
      (fun fl s' => CR CX outer P w H s Q E (.ok (.ret (match fl with | .ret v => v | _ => .none))) s') (ncx CX P w K mg base N F f A outer s H E).xe { s with heap := h₁, toks := s.toks + (ps.zip us).length } := by
    intro body
    refine ks_wpAt_execs_cons ?_
    refine sup_stmt (X := ncx CX P w K mg base N F f A outer s H E) (body := body) (G := fun H2 => t { nx := fun _ H' => Q .non H', rt := Q } (startF N vs [none]) H2) I (hF _) hC hN h0 ea pa hq (fun H2 s' J hG => ?_) (hev _) (he _) (hpl _)
    refine wpAt_of_wpAny ?_
    refine wpAny_mono (ps'.run [] s' (startF N vs [none]) H2 _ J hG) (fun fl s' hs => ?_) fun e s' hs => hs
    cases fl with
    | ret u =>
      obtain ⟨v, σ', H', J, rv, q⟩ := hs
      exact fin J rv q
    | next =>
      obtain ⟨σ', H', J, q⟩ := hs
      exact fin (v := V.non) (u := Value.none) J rfl q
    | brk =>
      obtain ⟨_, _, _, q⟩ := hs
      exact False.elim q
    | cont =>
      obtain ⟨_, _, _, q⟩ := hs
      exact False.elim q
  have m2 := main F.body
  rw [← hbd] at m2
  exact m2
end
end Sup
/-! Sets of texts, made of a list or a tuple, and sorted: any texts, in whatever order the world walks them. -/
namespace Sx
open PySem PySem.Spec PyProof.Rows L2 PySem.Froz

/-! ### lists -/
/-- a list without twins whose members all stand in a list of the same length is that list in another order -/
theorem perm_of_sub : ∀ (l ks : List Str), l.Nodup → (∀ x, x ∈ l → x ∈ ks) → ks.length = l.length → l.Perm ks
  | [], ks, _, _, e => by
    have z : ks = [] := List.length_eq_zero_iff.mp e
    rw [z]
  | x :: l, ks, nd, sub, e => by
    obtain ⟨hx, nd'⟩ := List.nodup_cons.mp nd
    have hm : x ∈ ks := sub x List.mem_cons_self
    have p := List.perm_cons_erase hm
    have hl : (ks.erase x).length = l.length := by
      have q := p.length_eq
      simp only [List.length_cons] at q e
      omega
    refine ((perm_of_sub l (ks.erase x) nd' (fun y hy => ?_) hl).cons x).trans p.symm
    have hne : y ≠ x := fun z => hx (z ▸ hy)
    exact (List.mem_erase_of_ne hne).mpr (sub y (List.mem_cons_of_mem _ hy))

/-! ### the payload behind an add -/
theorem tail_ris {ep : Nat} {es : Array (Int × Value)} {t : SetTable} {d : Bool} (r : Ris t.place.toList) : Ris (tailTx ep es t d).2.2.place.toList := by
  unfold tailTx
  split
  · exact relayAll_ris t es _
  · exact r
theorem tail_led {ep : Nat} {es : Array (Int × Value)} {t : SetTable} {d : Bool} : (tailTx ep es t d).2.2.led = t.led := by
  unfold tailTx
  split
  · exact relayAll_led t es _
  · rfl
theorem add_ris {D : SD} (h : Int) (v : Value) (r : Ris D.2.2.place.toList) : Ris (addTx h v D).2.2.place.toList := by
  have r1 := layNew_ris D.2.2 D.1 h v r
  unfold addTx
  apply tail_ris
  split
  · exact r1
  · exact r1
theorem add_led {D : SD} (h : Int) (v : Value) : (addTx h v D).2.2.led = D.2.2.led := by
  have r1 := layNew_led D.2.2 D.1 h v
  unfold addTx
  rw [tail_led]
  split
  · exact r1
  · exact r1

/-- the set of the texts l stands at a -/
def SetX (P : Program) (w : World) (h : Heap) (a : Addr) (l : List Str) : Prop :=
  ∃ D : SD, h.get? a = some (sObj "set" D) ∧ TxOk P w D l ∧ l.Nodup ∧ Ris D.2.2.place.toList ∧ (w.params.followText "set-order" = true ∨ D.2.2.led = true)

section
variable {P : Program} {w : World} {A : Around} {E : Value → Shared → Prop} {s : Shared}

theorem SetX.at {h h' : Heap} {a : Addr} {l : List Str} (R : SetX P w h a l) (k : ∀ o, h.get? a = some o → h'.get? a = some o) : SetX P w h' a l := by
  obtain ⟨D, ho, r⟩ := R
  exact ⟨D, k _ ho, r⟩
theorem setX_fresh {h : Heap} {a : Addr} (ho : h.get? a = some { cls := .type "set", dict := none, data := .set #[] 0 (.fresh 0 0 (!w.params.followText "set-order")) }) : SetX P w h a [] := by
  refine ⟨(#[], 0, .fresh 0 0 (!w.params.followText "set-order")), ho, TxOk.nil rfl, List.nodup_nil, List.Pairwise.nil, ?_⟩
  show _ ∨ (!w.params.followText "set-order") = true
  cases w.params.followText "set-order"
  · exact .inr rfl
  · exact .inl rfl

/-- one text more, new or there already -/
theorem add_any {a : Addr} {l : List Str} {k : Str} {u : Tok} {Q : Bool → Shared → Prop} (R : SetX P w s.heap a l) (hb : l.length + 1 < scanBound)
    (hQ : ∀ b h' l', Heap.SameBut a s.heap h' → SetX P w h' a l' → (∀ x, x ∈ l' ↔ x = k ∨ x ∈ l) → l'.length ≤ l.length + 1 → Q b { s with heap := h' }) :
    wpAny (model P w) A (setAddHashed a (.str k u) (hashStr w k)) Q E s := by
  obtain ⟨D, ho, F, nd, r, hl⟩ := R
  rcases Classical.em (k ∈ l) with hk | hk
  · obtain ⟨es, ep, t⟩ := D
    have hd : (sObj "set" (es, ep, t)).data = .set es ep t := rfl
    have hf : t.fits es.size = true := F.fit
    have hel : ElemsOf (PySem.strKind P w) es.toList := F.el
    have hb0 : es.size < scanBound := by
      have z : es.size = l.length := F.sz
      omega
    have hkey : (PySem.strKind P w).is k (.str k u) = true := is_str k u
    unfold setAddHashed setAddHashedIn
    refine wpAny_holding (wpAny_bind (wpAny_setState_of ho hd hf ?_))
    dsimp only
    rw [byScan_of rfl hb0 hel]
    simp only [↓reduceIte]
    unfold setAddByScan
    refine wpAny_bind ?_
    refine wpAny_bind (wpAny_rule ?_)
    refine wpAny_bind (wpAny_setScan_of (knd := PySem.strKind P w) (k := k) hkey ho hd hf hel ?_)
    cases hfi : List.findIdx? (fun e => (PySem.strKind P w).is k e.2) es.toList with
    | none =>
      obtain ⟨e, he, q⟩ := (F.mem k).mp hk
      have c := List.findIdx?_eq_none_iff.mp hfi e he
      rw [q] at c
      cases c
    | some j =>
      dsimp only
      refine wpAny_pure (wpAny_pure ?_)
      exact hQ _ s.heap l (Heap.SameBut.refl a s.heap) ⟨(es, ep, t), ho, F, nd, r, hl⟩ (fun x => ⟨.inr, fun z => z.elim (fun e => e ▸ hk) id⟩) (Nat.le_succ _)
  · refine add_x ho F hk hb (hQ _ _ (k :: l) (Heap.SameBut.update s.heap a _) ⟨_, get_upd _ ho rfl, add_ok u F, List.nodup_cons.mpr ⟨hk, nd⟩, add_ris _ _ r, ?_⟩ (fun x => List.mem_cons) (Nat.le_refl _))
    exact hl.imp id fun z => by
      rw [add_led]
      exact z
end

/-! ### set(xs): the loop -/
section
variable {P : Program} {w : World} {A : Around} {R : Result → Shared → Prop} {I : Addr} {fp wr : List Addr} {G : Array GenState → Array GenState → Prop} {n : Nat} {Pv : Nat → Value → Prop} {St : Nat → Shared → Prop}
theorem fill_loop (W : WalksS P w A.in1 I fp wr G n Pv St) (S : Addr) (hSf : S ∉ fp) (xs : List Str) (hn : xs.length = n) (hval : ∀ i v, Pv i v → ∃ t, v = .str (xs.getD i Str.empty) t) (hb : n + 1 < scanBound) :
    ∀ (k i : Nat) (s : Shared) (l : List Str), n - i = k → i ≤ n → St i s → SetX P w s.heap S l → (∀ x, x ∈ l ↔ x ∈ xs.take i) → l.length ≤ i →
      (∀ s' l', Moved (S :: wr) G s s' → SetX P w s'.heap S l' → (∀ x, x ∈ l' ↔ x ∈ xs) → l'.length ≤ n → R (.ok (.ret .none)) s') →
      codeAny (model P w) A (.builtin "set.update.loop" ⟨[.ref S, .ref I], []⟩) R s := by
  have hSw : S ∉ wr := fun h => hSf (W.sub _ h)
  have hsub : ∀ b ∈ wr, b ∈ S :: wr := fun b hb => List.mem_cons_of_mem _ hb
  intro k
  induction k with
  | zero =>
    intro i s l hk hi hst hS hm hlen hR
    have hin : i = n := by omega
    subst hin
    refine codeAny_builtin PyProof.Rows.F.entry_set_update_loop ?_
    rw [Around.under_plainId PyProof.Rows.F.plain_set_update_loop _]
    show wpAny _ A.in1 (pyNext (.ref I) >>= _) _ _ s
    refine wpAny_bind (W.done s _ _ hst fun s' hmv => ?_)
    show wpAny _ A.in1 (ret Value.none) _ _ s'
    refine wpAny_pure (hR s' l (hmv.mono hsub) (hS.at fun o e => hmv.heap S o hSw e) (fun x => ?_) hlen)
    rw [hm x, ← hn, List.take_length]
  | succ k ih =>
    intro i s l hk hi hst hS hm hlen hR
    have hlt : i < n := by omega
    refine codeAny_builtin PyProof.Rows.F.entry_set_update_loop ?_
    rw [Around.under_plainId PyProof.Rows.F.plain_set_update_loop _]
    show wpAny _ A.in1 (pyNext (.ref I) >>= _) _ _ s
    refine wpAny_bind (W.item i s _ _ hlt hst fun v s' hP hst' hmv => ?_)
    obtain ⟨t, rfl⟩ := hval i v hP
    have hS' : SetX P w s'.heap S l := hS.at fun o e => hmv.heap S o hSw e
    show wpAny _ A.in1 (holding [Value.str (xs.getD i Str.empty) t] (setAdd S (.str (xs.getD i Str.empty) t)) >>= _) _ _ s'
    refine wpAny_bind (wpAny_holding ?_)
    unfold setAdd
    refine wpAny_holding ?_
    refine wpAny_bind ((PySem.strKind P w).pyHash (k := xs.getD i Str.empty) (strKind_is _ _ _ _) ?_)
    have hroom : l.length + 1 < scanBound := by omega
    refine add_any (s := { s' with toks := s'.toks + 1 }) hS' hroom fun b h' l' hsb hS2 hm2 hl2 => ?_
    have hix : i < xs.length := by omega
    have eg : xs.getD i Str.empty = xs[i] := by
      rw [List.getD_eq_getElem?_getD, List.getElem?_eq_getElem hix]
      rfl
    have hm3 : ∀ x, x ∈ l' ↔ x ∈ xs.take (i + 1) := fun x => by
      rw [hm2 x, List.take_succ, List.getElem?_eq_getElem hix, eg]
      show _ ↔ x ∈ xs.take i ++ [xs[i]]
      rw [List.mem_append, List.mem_singleton, hm x]
      exact Or.comm
    refine wpAny_pure ⟨plainId_quiet PyProof.Rows.F.plain_set_update_loop _, ih (i + 1) _ l' (by omega) hlt (W.frame _ s' _ _ hst' (Nat.le_succ _) fun b hb o e => ?_) hS2 hm3 (by omega) fun s'' l'' hmv'' hS'' hm'' hl'' => ?_⟩
    · rw [hsb.2 b (fun h : b = S => hSf (by rw [← h]; exact hb))]
      exact e
    · refine hR s'' l'' (Moved.trans W.gtrans ((hmv.mono hsub).then_heap (Nat.le_succ _) fun b o hb e => ?_) hmv'') hS'' hm'' hl''
      rw [hsb.2 b (fun h : b = S => hb (by rw [h]; exact List.mem_cons_self))]
      exact e
end

/-! ### set(xs): the call -/
section
variable {P : Program} {w : World} {A : Around} {E : Value → Shared → Prop} {s : Shared}
abbrev emptyObj (w : World) : Obj := { cls := .type "set", dict := none, data := .set #[] 0 (.fresh 0 0 (!w.params.followText "set-order")) }
theorem str_at {us : List Value} {xs : List Str} (h : StrsAre us xs) : ∀ (i : Nat) (v : Value), us[i]? = some v → ∃ t, v = .str (xs.getD i Str.empty) t := by
  induction h with
  | nil =>
    intro i v e
    cases e
  | cons y t h ih =>
    intro i v e
    cases i with
    | zero =>
      have q : Value.str y t = v := Option.some.inj e
      exact ⟨t, q.symm⟩
    | succ i => exact ih i v e

set_option maxRecDepth 100000 in
set_option maxHeartbeats 4000000 in
/-- set(xs), xs a list or a tuple of texts -/
theorem call_set {l : Addr} {items : Array Value} {xs : List Str} {Q : Value → Shared → Prop} (hh : A.handled = none) (hl : s.heap.IsList l items ∨ s.heap.IsTuple l items) (hi : StrsAre items.toList xs) (hb : xs.length + 1 < scanBound)
    (h : ∀ (h' : Heap) (tk : Nat) (ys : List Str), SetX P w h' s.heap.objs.size ys → (∀ x, x ∈ ys ↔ x ∈ xs) → ys.length ≤ xs.length → (∀ b o, s.heap.get? b = some o → h'.get? b = some o) → Q (.ref s.heap.objs.size) { s with heap := h', toks := tk }) :
    wpAny (model P w) A (call (.type "set") [.ref l]) Q E s := by
  have hisz : xs.length = items.size := by rw [← StrsAre.len_eq hi, Array.length_toList]
  have hval : ∀ (i : Nat) (v : Value), items[i]? = some v → ∃ t, v = .str (xs.getD i Str.empty) t := fun i v hv => str_at hi i v (by rw [Array.getElem?_toList]; exact hv)
  obtain ⟨c, tl, hmro⟩ := PySem.F.called_set.mro
  have hmade := PySem.F.called_set.made
  have hsub := PySem.F.called_set.sub
  refine wpAny_call (codeAny_of_tree ?_)
  show wpAny _ _ (callAny (.type "set") _) _ _ _
  refine wpAny_pure ⟨Code.quiet_builtin _ (by decide +kernel), codeAny_builtin PySem.F.entry_type_call ?_⟩
  rw [Around.under_plain (weight_type_call_type "set" [.ref l] []) rfl]
  have h1 := PySem.F.called_set.notType
  have h2 := PySem.F.called_set.canCreate
  have hct := PySem.F.typeCall_set_1 (.ref l)
  repeat (any_goals (first | assumption | wp_step))
  refine codeAny_mono (code_set_led1 (.ref l) (E := E) (Q₁ := fun obj s₁ => obj = .ref s.heap.objs.size ∧ s₁ = { s with heap := s.heap.push (emptyObj w) }) ⟨rfl, rfl⟩) fun r s₁ hr => ?_
  cases r with
  | error e => exact hr
  | ok fl =>
    cases fl with
    | ret obj =>
      obtain ⟨rfl, rfl⟩ := hr
      have hS : (s.heap.push (emptyObj w)).get? s.heap.objs.size = some (emptyObj w) := Heap.get?_push_size _ rfl
      have hT : Shared.TypeIs { s with heap := s.heap.push (emptyObj w) } (.ref s.heap.objs.size) "set" := ⟨_, hS, rfl⟩
      have hli := PySem.F.called_set.init.lookup
      have hbi := PySem.F.called_set.init.bind (.ref s.heap.objs.size)
      repeat (any_goals (first | assumption | wp_step))
      refine codeAny_mono (codeAny_call_builtin (R := wants (fun r s₂ => r = .none ∧ ∃ h' tk ys, s₂ = { s with heap := h', toks := tk } ∧ SetX P w h' s.heap.objs.size ys ∧ (∀ x, x ∈ ys ↔ x ∈ xs) ∧ ys.length ≤ xs.length ∧
          (∀ b o, s.heap.get? b = some o → h'.get? b = some o)) E) PySem.F.called_set.init.plain PySem.F.entry_set_init (check_set_init_1 hT ?_)) fun r₂ s₂ hr₂ => ?_
      · have hh3 : A.in1.in1.in1.handled = none := by simp [hh]
        have hz1 : (s.heap.push (emptyObj w)).objs.size = s.heap.objs.size + 1 := Heap.size_push ..
        rcases hl with hl | hl
        · obtain ⟨ol, hol, hcl, nl, hdl⟩ := hl
          obtain ⟨ocls, odict, odata, oslots⟩ := ol
          simp only at hcl hdl
          subst hcl; subst hdl
          have hol' : (s.heap.push (emptyObj w)).get? l = some { cls := .type "list", dict := odict, data := .seq items nl, slots := oslots } := Heap.get?_push_of_some _ hol
          have hsls := PySem.F.sub_list_set
          have hslf := PySem.F.sub_list_frozenset
          have hne : (Value.type "list" == Value.type "dict") = false := by decide
          have hl1 : (s.heap.push (emptyObj w)).IsList l items := ⟨_, hol', rfl, nl, rfl⟩
          unfold Builtin.«set.__init__» noKeywords Builtin.Frozenset.updateFrom
          generalize hPI : pyIter = PI
          wp_walk
          subst hPI
          refine wpAny_pyIter_list hl1 ?_
          refine wpAny_bind (wpAny_runValue ?_)
          have hlS : l < s.heap.objs.size := Heap.lt_size hol
          have hneI : l ≠ (s.heap.push (emptyObj w)).objs.size := by
            rw [hz1]
            exact Nat.ne_of_lt (Nat.lt_succ_of_lt hlS)
          have hSf : s.heap.objs.size ∉ [(s.heap.push (emptyObj w)).objs.size, l] := by
            simp only [List.mem_cons, List.mem_singleton, List.not_mem_nil, or_false, not_or]
            rw [hz1]
            exact ⟨Nat.ne_of_lt (Nat.lt_succ_self _), Nat.ne_of_gt hlS⟩
          have hget : ((s.heap.push (emptyObj w)).push { cls := .type "list_iterator", data := .fields #[.ref l, .int 0 0] }).get? s.heap.objs.size = some (emptyObj w) := Heap.get?_push_of_some _ hS
          refine fill_loop ((Walks.list hh3 _ l hneI items).toS) s.heap.objs.size hSf xs hisz hval (by omega) (items.size - 0) 0 _ [] (by omega) (Nat.zero_le _)
            ⟨⟨_, Heap.get?_push_size _ rfl, rfl, rfl⟩, (hl1.push _)⟩ (setX_fresh hget) (fun x => Iff.rfl) (Nat.le_refl _) ?hR
          case hR =>
            intro s' ys hm hS' hmm hlen
            obtain ⟨h', g', d', tk', os'⟩ := s'
            have eg : g' = s.gens := hm.gens
            have ed : d' = s.drawn := hm.drawn
            have eo : os' = s.os := hm.os
            subst eg; subst ed; subst eo
            show wpAny _ _ _ _ _ _
            refine wpAny_pure ?_
            show wpAny _ _ (ret Value.none) _ _ _
            refine wpAny_pure ⟨rfl, h', tk', ys, rfl, hS', hmm, by omega, fun b o e => ?_⟩
            have hb0 : b < s.heap.objs.size := Heap.lt_size e
            refine hm.heap b o ?_ (Heap.get?_push_of_some _ (Heap.get?_push_of_some _ e))
            simp only [List.mem_cons, List.mem_singleton, List.not_mem_nil, or_false, not_or]
            rw [hz1]
            exact ⟨Nat.ne_of_lt hb0, Nat.ne_of_lt (Nat.lt_succ_of_lt hb0)⟩
        · obtain ⟨ol, hol, hcl, nl, hdl⟩ := hl
          obtain ⟨ocls, odict, odata, oslots⟩ := ol
          simp only at hcl hdl
          subst hcl; subst hdl
          have hol' : (s.heap.push (emptyObj w)).get? l = some { cls := .type "tuple", dict := odict, data := .seq items nl, slots := oslots } := Heap.get?_push_of_some _ hol
          have hsls := PySem.F.sub_tuple_set
          have hslf := PySem.F.sub_tuple_frozenset
          have hne : (Value.type "tuple" == Value.type "dict") = false := by decide
          have hl1 : (s.heap.push (emptyObj w)).IsTuple l items := ⟨_, hol', rfl, nl, rfl⟩
          unfold Builtin.«set.__init__» noKeywords Builtin.Frozenset.updateFrom
          generalize hPI : pyIter = PI
          wp_walk
          subst hPI
          refine wpAny_pyIter_tuple hl1 ?_
          refine wpAny_bind (wpAny_runValue ?_)
          have hlS : l < s.heap.objs.size := Heap.lt_size hol
          have hneI : l ≠ (s.heap.push (emptyObj w)).objs.size := by
            rw [hz1]
            exact Nat.ne_of_lt (Nat.lt_succ_of_lt hlS)
          have hSf : s.heap.objs.size ∉ [(s.heap.push (emptyObj w)).objs.size, l] := by
            simp only [List.mem_cons, List.mem_singleton, List.not_mem_nil, or_false, not_or]
            rw [hz1]
            exact ⟨Nat.ne_of_lt (Nat.lt_succ_self _), Nat.ne_of_gt hlS⟩
          have hget : ((s.heap.push (emptyObj w)).push { cls := .type "tuple_iterator", data := .fields #[.ref l, .int 0 0] }).get? s.heap.objs.size = some (emptyObj w) := Heap.get?_push_of_some _ hS
          refine fill_loop ((Walks.tuple hh3 _ l hneI items).toS) s.heap.objs.size hSf xs hisz hval (by omega) (items.size - 0) 0 _ [] (by omega) (Nat.zero_le _)
            ⟨⟨_, Heap.get?_push_size _ rfl, rfl, rfl⟩, (hl1.push _)⟩ (setX_fresh hget) (fun x => Iff.rfl) (Nat.le_refl _) ?hR
          case hR =>
            intro s' ys hm hS' hmm hlen
            obtain ⟨h', g', d', tk', os'⟩ := s'
            have eg : g' = s.gens := hm.gens
            have ed : d' = s.drawn := hm.drawn
            have eo : os' = s.os := hm.os
            subst eg; subst ed; subst eo
            show wpAny _ _ _ _ _ _
            refine wpAny_pure ?_
            show wpAny _ _ (ret Value.none) _ _ _
            refine wpAny_pure ⟨rfl, h', tk', ys, rfl, hS', hmm, by omega, fun b o e => ?_⟩
            have hb0 : b < s.heap.objs.size := Heap.lt_size e
            refine hm.heap b o ?_ (Heap.get?_push_of_some _ (Heap.get?_push_of_some _ e))
            simp only [List.mem_cons, List.mem_singleton, List.not_mem_nil, or_false, not_or]
            rw [hz1]
            exact ⟨Nat.ne_of_lt hb0, Nat.ne_of_lt (Nat.lt_succ_of_lt hb0)⟩
      · cases r₂ with
        | error e => exact hr₂
        | ok fl₂ =>
          cases fl₂ with
          | ret r =>
            obtain ⟨rfl, h', tk, ys, rfl, hS', hmm, hlen, hk'⟩ := hr₂
            repeat (any_goals (first | assumption | wp_step))
            exact h _ _ _ hS' hmm hlen hk'
          | _ => exact hr₂.elim
    | _ => exact hr.elim

/-! ### sorted(set) -/
theorem strs_of : ∀ (l : List Value), (∀ v ∈ l, ∃ k tk, v = Value.str k tk) → StrsAre l (l.map strOf)
  | [], _ => .nil
  | v :: l, h => by
    obtain ⟨k, tk, rfl⟩ := h v List.mem_cons_self
    exact .cons k tk (strs_of l fun u hu => h u (List.mem_cons_of_mem _ hu))
theorem sorted_setX {a : Addr} {l : List Str} {Q : Value → Shared → Prop} (R : SetX P w s.heap a l) (hh : A.handled = none) (hlen : l.length + 1 < scanBound)
    (hQ : ∀ s' p (out : Array Value) (c : Nat) (ys : List Str), (∀ b o, s.heap.get? b = some o → s'.heap.get? b = some o) → s'.gens = s.gens → s'.os = s.os → s.heap.objs.size ≤ p →
      s'.heap.get? p = some (seqObj "list" out c) → StrsAre out.toList ys → sortedS ys = true → ys.Perm l → Q (.ref p) s') :
    wpAny (model P w) A (call (.builtin "sorted") [.ref a]) Q E s := by
  obtain ⟨⟨es, ep, t⟩, ho, F, nd, r, hl⟩ := R
  have hf : t.fits es.size = true := F.fit
  have hsz : es.size = l.length := F.sz
  refine Calls.call_function_entry kind_sorted plain_sorted entry_sorted (args_sorted1 _) ?_
  unfold Builtin.«sorted»
  refine wpAny_bind (m := checkCount "sorted" 1 1 _) (wpAny_pure ?_)
  refine wpAny_bind (collect_set (A := A.in1) hh ⟨_, ho, rfl, rfl⟩ hf (by show es.size < scanBound; rw [hsz]; omega) r hl fun s1 vs k1 hz g1 o1 pm => ?_)
  have hvl : vs.length = l.length := by rw [pm.length_eq, List.length_map, Array.length_toList]; exact hsz
  have hst : ∀ v ∈ vs, ∃ k tk, v = Value.str k tk ∧ k ∈ l := fun v hv => by
    obtain ⟨e, he, q⟩ := List.mem_map.mp (pm.mem_iff.mp hv)
    obtain ⟨⟨k, h1, _⟩, _⟩ := F.el e he
    obtain ⟨tk, h2⟩ := Value.isStrOf_shape h1
    exact ⟨k, tk, by rw [← q]; exact h2, (F.mem k).mpr ⟨e, he, h1⟩⟩
  have hI : StrsAre vs (vs.map strOf) := strs_of vs fun v hv => let ⟨k, tk, e, _⟩ := hst v hv; ⟨k, tk, e⟩
  have pk : (vs.map strOf).Perm l := by
    refine (perm_of_sub l (vs.map strOf) nd (fun x hx => ?_) (by rw [List.length_map, hvl])).symm
    obtain ⟨e, he, h1⟩ := (F.mem x).mp hx
    obtain ⟨tk, h2⟩ := Value.isStrOf_shape h1
    exact List.mem_map.mpr ⟨e.2, pm.mem_iff.mpr (List.mem_map.mpr ⟨e, he, rfl⟩), by rw [h2]; rfl⟩
  have hline : vs.length ≤ sizeLine := by
    rw [hvl, sizeLine_eq]
    have z : scanBound = 4096 := rfl
    omega
  refine wpAny_bind (wpAny_newList ?_ hline)
  have hoL : (s1.heap.push (seqObj "list" vs.toArray 0)).get? s1.heap.objs.size = some (seqObj "list" vs.toArray 0) := Heap.get?_push_size _ rfl
  refine wpAny_bind (wpAny_holding (wpAny_call_entry slot_list_sort ⟨_, hoL, rfl⟩ entry_list_sort (list_sort_treeKAny strKind_oneLt hoL hI.keysOf (fun v₁ v₂ rest e => keyKind_strs (by rw [← e]; exact hI)) hline fun st' hp hs => ⟨_, rfl, ?_⟩) (args_list_sort _)))
  obtain ⟨ys, a1, a2, a3⟩ := sorted_out_str hI hp hs
  obtain ⟨c, hc⟩ := sortedHeap_at (vs := vs) (out := (arrOf st').map (·.2)) hoL
  refine wpAny_pure ⟨_, rfl, hQ _ s1.heap.objs.size _ c ys (fun b u e => ?_) g1 o1 hz hc a1 a3 (a2.trans pk)⟩
  have q := k1 b u e
  have hlt := Heap.lt_size q
  show (sortedHeap (s1.heap.push (seqObj "list" vs.toArray 0)) s1.heap.objs.size vs _).get? b = some u
  rw [sortedHeap_old (Nat.ne_of_lt hlt) (by rw [size_push']; exact Nat.lt_succ_of_lt hlt)]
  exact Heap.get?_push_of_some _ q
end

/-! ### over the layer -/
def SetV (P : Program) (w : World) (a : Addr) (l : List Str) : HO := .ext fun h => SetX P w h a l
section
variable {X : Cx}
theorem setV_new {P : Program} {w : World} {H : Hp} {h : Heap} {a : Addr} {l : List Str} (R : SetX P w h a l) : ObjOk P w H h a (SetV P w a l) := by
  have ⟨o, ho, _⟩ := R
  exact ⟨R, ⟨_, ho⟩, fun h1 h2 p k => SetX.at p k⟩
/-- set(xs), xs a list or a tuple of texts -/
def rSetX (K : PySem.W.Frag) (P : Program) (w : World) : List V → Hp → VK → Prop := fun vs H Q => ∃ (a : Addr) (xs : List Str), vs = [V.ref a] ∧ (SqL K H a (xs.map V.str) ∨ SqT K H a (xs.map V.str)) ∧ xs.length < 4000 ∧
  ∀ p ys, H p = none → (∀ x, x ∈ ys ↔ x ∈ xs) → ys.Nodup → ys.length ≤ xs.length → Q (.ref p) (upd H p (SetV P w p ys))
theorem cr_setX (hc : X.calm = true) : CallR X (.type "set") (rSetX X.K X.prog X.w) := by
  intro pins s σ H vs us Q I r h
  obtain ⟨a, xs, rfl, hs, hlen, q⟩ := h
  rw [Vals.ref1 r]
  have hn : H s.heap.objs.size = none := I.hok.fresh (Nat.le_refl _)
  have hz : xs.length + 1 < scanBound := by
    have z : scanBound = 4096 := rfl
    omega
  obtain ⟨its, rv, pl⟩ : ∃ its : List Value, Vals (xs.map V.str) its ∧ (s.heap.IsList a its.toArray ∨ s.heap.IsTuple a its.toArray) := by
    rcases hs with hs | hs
    · obtain ⟨its, rv, pl, _⟩ := I.list hs
      exact ⟨its, rv, .inl pl.isList⟩
    · obtain ⟨its, rv, pl, _⟩ := I.tuple hs
      exact ⟨its, rv, .inr pl⟩
  refine call_set (P := X.prog) (w := X.w) (I.ok.hd hc) pl (by simpa using rv.strs) hz fun h' tk ys R hm hl k => ?_
  have nd : ys.Nodup := by
    obtain ⟨_, _, _, z, _⟩ := R
    exact z
  exact ⟨.ref s.heap.objs.size, upd H s.heap.objs.size (SetV X.prog X.w s.heap.objs.size ys), I.laid (t' := tk) k (Nat.le_refl _) (setV_new R), rfl, q _ ys hn hm nd hl⟩
/-- sorted(a set of texts) -/
def rSortX (P : Program) (w : World) : List V → Hp → VK → Prop := fun vs H Q => ∃ (a : Addr) (l : List Str), vs = [V.ref a] ∧ H a = some (SetV P w a l) ∧ l.length < 4000 ∧
  ∀ ys p, ys.Perm l → sortedS ys = true → H p = none → Q (.ref p) (upd H p (.lst (ys.map V.str)))
theorem cr_sortX (hc : X.calm = true) : CallR X (.builtin "sorted") (rSortX X.prog X.w) := by
  intro pins s σ H vs us Q I r h
  obtain ⟨a, l, rfl, ha, hlen, q⟩ := h
  have R : SetX X.prog X.w s.heap a l := (I.hok a _ ha).1
  rw [Vals.ref1 r]
  have hz : l.length + 1 < scanBound := by
    have z : scanBound = 4096 := rfl
    omega
  refine sorted_setX R (I.ok.hd hc) hz fun s' p out c ys k g o hp hg hi hs pm => ?_
  have hl2 : (ys.map V.str).length ≤ sizeLine := by
    rw [List.length_map, pm.length_eq, sizeLine_eq]
    omega
  have hn : H p = none := I.hok.fresh hp
  have J : Inv X pins σ (upd H p (.lst (ys.map V.str))) { s with heap := s'.heap, gens := s'.gens, drawn := s'.drawn, toks := s'.toks } :=
    I.call (ch := []) (Un.laid k hp hn) (I.hok.laid k hp ⟨hl2, out.toList, c, vals_of_strs hi, hg⟩) (by rw [g]; exact I.bare) (fun _ z => nomatch z)
  have e : s' = { s with heap := s'.heap, gens := s'.gens, drawn := s'.drawn, toks := s'.toks } := by
    cases s'
    cases s
    cases o
    rfl
  rw [e]
  exact ⟨.ref p, _, J, rfl, q ys p pm hs hn⟩
end
end Sx
/-! Calls of the module's own defs by their promises, walks over a list or a tuple, data that stays. -/
namespace Bx
open PySem PySem.Spec PyProof.Rows L2 TL

/-- the module's name x holds a def that keeps sp, by at most level k -/
structure Cal (P : Program) (w : World) (K : PySem.W.Frag) (mg : Str → Option Value) (base : Heap) (x : Str) (k : Nat) (ps : List Str) (sp : Sp) : Prop where
  ex : ∃ (f : Addr) (fd : FuncData), FnOk P w K mg base CX0 k f fd ps sp ∧ mg x = some (.ref f) ∧ PySem.W.keepIn K (.ref f) = true ∧ Binds K fd ps []
/-- the same of a def with a star parameter alone -/
structure CalR (P : Program) (w : World) (K : PySem.W.Frag) (mg : Str → Option Value) (base : Heap) (x : Str) (k : Nat) (sp : Sp) : Prop where
  ex : ∃ f : Addr, FnR P w K mg base CX0 k f sp ∧ mg x = some (.ref f) ∧ PySem.W.keepIn K (.ref f) = true
section
variable {X : Cx} {x : Str} {k : Nat} {ps : List Str} {sp : Sp} {e : Expr} {es : List Expr} {t : TA} {p pos : Pos}
def tCal (sp : Sp) (t : TA) : TE := fun σ H Q => t σ H fun vs H1 => sp vs H1 Q E0
theorem pe_cal (c : Cal X.prog X.w X.K X.mg X.base x k ps sp) (hr : Room k X.A) (ha : PA X (e :: es) t) (hg : Gl X x := by rfl) (hdb : (x == ("__debug__" : Str)) = false := by decide)
    (he : starEach (e :: es) X.env = (false, eval e X.env) :: starEach es X.env := by rfl) (hpl : (backTo pos (starEach es X.env)).any (·.1) = false := by rfl) : PE X (.Call (.Name x p) (e :: es) [] pos) (tCal sp t) := by
  obtain ⟨f, fd, ok, g, kp, b⟩ := c.ex
  have z := pe_call (E := E0) ok hr hg g kp b .nil pass0 ha hdb he hpl (p := p)
  refine ⟨fun pins s σ H Q I h => z.run pins s σ H Q I ?_⟩
  unfold tCall
  simp only [List.append_nil]
  exact h
theorem pe_cal0 (c : Cal X.prog X.w X.K X.mg X.base x k ps sp) (hr : Room k X.A) (hg : Gl X x := by rfl) (hdb : (x == ("__debug__" : Str)) = false := by decide) : PE X (.Call (.Name x p) [] [] pos) (tCal sp tNil) := by
  obtain ⟨f, fd, ok, g, kp, b⟩ := c.ex
  have z := pe_call0 (E := E0) (pos := pos) ok hr hg g kp b .nil pass0 hdb (p := p)
  refine ⟨fun pins s σ H Q I h => z.run pins s σ H Q I ?_⟩
  exact h
theorem pe_calR (c : CalR X.prog X.w X.K X.mg X.base x k sp) (hr : Room k X.A) (ha : PA X (e :: es) t) (hg : Gl X x := by rfl) (hdb : (x == ("__debug__" : Str)) = false := by decide)
    (he : starEach (e :: es) X.env = (false, eval e X.env) :: starEach es X.env := by rfl) (hpl : (backTo pos (starEach es X.env)).any (·.1) = false := by rfl) : PE X (.Call (.Name x p) (e :: es) [] pos) (tCal sp t) := by
  obtain ⟨f, ok, g, kp⟩ := c.ex
  refine ⟨fun pins s σ H Q I h => ?_⟩
  refine wpAny_Call_Name_kw (ld_glob I hg g ?_ hdb)
  refine PySem.W.callWith_K (h₀ := X.base) I.ok.mod.kin kp (thn (ha.run pos pins s σ H _ I h) fun us s1 ⟨vs, H1, I1, r, q⟩ => ⟨I1.kIn, ?_⟩) he hpl
  exact wpAny_call (run_fnR ok hr pass0 I1 r q)
theorem pe_calR0 (c : CalR X.prog X.w X.K X.mg X.base x k sp) (hr : Room k X.A) (hg : Gl X x := by rfl) (hdb : (x == ("__debug__" : Str)) = false := by decide) : PE X (.Call (.Name x p) [] [] pos) (tCal sp tNil) := by
  obtain ⟨f, ok, g, kp⟩ := c.ex
  refine ⟨fun pins s σ H Q I h => ?_⟩
  refine wpAny_Call_Name_kw (ld_glob I hg g ?_ hdb)
  exact PySem.W.callWith_K0 I.kIn kp (wpAny_call (run_fnR ok hr pass0 I .nil h))

/-- x(*y) -/
theorem pe_calS {te : TE} {sp_ : Pos} (c : CalR X.prog X.w X.K X.mg X.base x k sp) (hr : Room k X.A) (he : PE X e te) (hg : Gl X x := by rfl) (hdb : (x == ("__debug__" : Str)) = false := by decide) (hst : starEach [.Starred e sp_] X.env = [(true, eval e X.env)] := by rfl) :
    PE X (.Call (.Name x p) [.Starred e sp_] [] pos) (fun σ H Q => te σ H fun y H1 => ∃ a xs, y = V.ref a ∧ (SqT X.K H1 a xs ∨ SqL X.K H1 a xs) ∧ sp xs H1 Q E0) := by
  obtain ⟨f, ok, g, kp⟩ := c.ex
  exact StX.pe_callS1 ok hr kp hg g pass0 he hdb hst

/-- a walk over a list or a tuple -/
def SeqCase (K : PySem.W.Frag) (a : Addr) (H : Hp) (R : It → Hp → Prop) : Prop := ((∃ xs, SqL K H a xs) ∧ R (Itl K a) H) ∨ ((∃ xs, SqT K H a xs) ∧ R (Itt K a) H)
def iSeq (K : PySem.W.Frag) (tl : TE) : TI := fun σ H R => tl σ H fun x H1 => ∃ a, x = .ref a ∧ SeqCase K a H1 R
theorem pi_seq {tg l : Expr} {tl : TE} (hl : PE X l tl) : PI X tg l (iSeq X.K tl) := by
  refine ⟨fun pins s σ H R I h => ?_⟩
  refine thn (hl.run pins s σ H _ I h) fun v s1 ⟨x, H1, I1, r1, q1⟩ => ?_
  obtain ⟨a, e, q1⟩ := q1
  subst e
  cases r1
  rcases q1 with ⟨⟨xs, hq⟩, q⟩ | ⟨⟨xs, hq⟩, q⟩
  · obtain ⟨its, rv, p, hz⟩ := I1.list hq
    refine wpAny_pyIter_list p.isList ?_
    exact pi_one (tk := s1.toks) I1 _ (turn_list a _) ⟨_, Heap.get?_push_size _ rfl, rfl, rfl⟩ q
  · obtain ⟨its, rv, p, hz⟩ := I1.tuple hq
    refine wpAny_pyIter_tuple (show s1.heap.IsTuple a its.toArray from p) ?_
    exact pi_one (tk := s1.toks) I1 _ (turn_tuple a _) ⟨_, Heap.get?_push_size _ rfl, rfl, rfl⟩ q
end

/-! ### rules with the written part named (within a block) -/
section
variable {X : Cx} {K : PySem.W.Frag}
theorem ix_listK (h : X.K = K) : IxR X (rIxL K) := h ▸ ix_list
theorem ix_tupK (h : X.K = K) : IxR X (rIxT K) := h ▸ ix_tup
theorem op_in_seqK (h : X.K = K) : OpR X (compareOp .In) (rIn K false) := h ▸ op_in_seq
theorem call_list_ofK (h : X.K = K) : CallR X (.type "list") (fun xs H Q => ∃ p ys, xs = [.ref p] ∧ (SqL K H p ys ∨ SqT K H p ys) ∧ ∀ l, H l = none → Q (.ref l) (upd H l (.lst ys))) := by
  subst h
  exact call_list_of
theorem call_tuple_ofK (h : X.K = K) : CallR X (.type "tuple") (fun xs H Q => ∃ p ys, xs = [.ref p] ∧ ((SqL K H p ys ∧ ∀ l, H l = none → Q (.ref l) (upd H l (.tup ys))) ∨ (SqT K H p ys ∧ Q (.ref p) H))) := by
  subst h
  exact call_tuple_of
theorem call_len_seqK (h : X.K = K) : CallR X (.builtin "len") (fun xs H Q => ∃ p ys, xs = [.ref p] ∧ (SqL K H p ys ∨ SqT K H p ys) ∧ Q (.int ys.length) H) := by
  subst h
  exact call_len_seq
theorem cr_allK (h : X.K = K) (hc : X.calm = true) : CallR X (.builtin "all") (rAll K) := by
  subst h
  exact cr_all hc
theorem pg_tupK {es : List Expr} {k : Nat} {t : TGs} {n : Nat} {pos : Pos} (h : X.K = K) (hc : X.calm = true) (hs : PGs X es t)
    (hn : (assignEach es X.env).length = n := by rfl) (hst : (assignEach es X.env).findIdx? (·.1) = none := by rfl) : PG X (.Tuple es k pos) (gTup K n t) := by
  subst h
  exact pg_tup hc hs hn hst
theorem op_notIn_seqK (h : X.K = K) : OpR X (compareOp .NotIn) (rIn K true) := h ▸ op_notIn_seq
end

/-! ### heaps -/
theorem same_new {H : Hp} {p : Addr} {o : HO} (h : H p = none) : Same H (upd H p o) := fun b x e => by
  rw [upd_ne (ne_of_none e h)]
  exact e
theorem same_at {H H2 : Hp} {p : Addr} {o : HO} (h : H p = none) (s : Same H H2) : Same H (upd H2 p o) := fun b x e => by
  rw [upd_ne (ne_of_none e h)]
  exact s b x e
theorem Same.tup {K : PySem.W.Frag} {H H' : Hp} {a : Addr} {xs : List V} (e : Same H H') (h : SqT K H a xs) : SqT K H' a xs := by
  rcases h with (h | ⟨o, h⟩) | h
  · exact .inl (.inl (e _ _ h))
  · exact .inl (.inr ⟨o, e _ _ h⟩)
  · exact .inr h
theorem sq {K : PySem.W.Frag} {H : Hp} {a : Addr} {xs : List V} (h : H a = some (.lst xs)) : SqL K H a xs := Or.inl (Or.inl h)
theorem sqt {K : PySem.W.Frag} {H : Hp} {a : Addr} {xs : List V} (h : H a = some (.tup xs)) : SqT K H a xs := Or.inl (Or.inl h)
/-- all that was tracked but a is as it was -/
def SameBut (a : Addr) (H H' : Hp) : Prop := ∀ b o, b ≠ a → H b = some o → H' b = some o
theorem SameBut.refl (a : Addr) (H : Hp) : SameBut a H H := fun _ _ _ h => h
theorem SameBut.trans {a : Addr} {H H1 H2 : Hp} (x : SameBut a H H1) (y : SameBut a H1 H2) : SameBut a H H2 := fun b o n h => y b o n (x b o n h)
theorem Same.but {a : Addr} {H H' : Hp} (x : Same H H') : SameBut a H H' := fun b o _ h => x b o h
theorem SameBut.upd {a : Addr} {H : Hp} {o : HO} : SameBut a H (upd H a o) := fun b x n h => by
  rw [upd_ne n]
  exact h
/-- new objects do not disturb: what was tracked at H, where a was not -/
theorem SameBut.same {a : Addr} {H H1 H2 : Hp} (x : Same H H1) (n : H a = none) (y : SameBut a H1 H2) : Same H H2 := fun b o h => y b o (ne_of_none h n) (x b o h)
theorem sz {n : Nat} (h : n ≤ 100000) : n ≤ sizeLine := Nat.le_trans h (by decide)
theorem szl {n : Nat} (h : n < 100000) : n < sizeLine := Nat.lt_of_lt_of_le h (by decide)
/-- the source of draws at a -/
def Src (H : Hp) (a : Addr) : Prop := ∃ n c : Int, H a = some (.lst [.int n, .int c])

/-! ### data -/
mutual
theorem dp_same {K : PySem.W.Frag} {H H' : Hp} (e : Same H H') : ∀ {v : V} {d : PyData}, Dp K H v d → Dp K H' v d
  | _, _, .non => .non
  | _, _, .bl b => .bl b
  | _, _, .int i => .int i
  | _, _, .str x => .str x
  | _, _, .lst h a => .lst (e.seq h) (dpAll_same e a)
  | _, _, .tup h a => .tup (Bx.Same.tup e h) (dpAll_same e a)
theorem dpAll_same {K : PySem.W.Frag} {H H' : Hp} (e : Same H H') : ∀ {vs : List V} {ds : List PyData}, DpAll K H vs ds → DpAll K H' vs ds
  | _, _, .nil => .nil
  | _, _, .cons h a => .cons (dp_same e h) (dpAll_same e a)
end
theorem dp_strs {K : PySem.W.Frag} {H : Hp} : ∀ ys : List Str, DpAll K H (ys.map V.str) (ys.map PyData.str)
  | [] => .nil
  | y :: ys => .cons (.str y) (dp_strs ys)
theorem dp_ints {K : PySem.W.Frag} {H : Hp} : ∀ ys : List Int, DpAll K H (ys.map V.int) (ys.map PyData.int)
  | [] => .nil
  | y :: ys => .cons (.int y) (dp_ints ys)
theorem dp_map {K : PySem.W.Frag} {H : Hp} {α : Type} {f : α → V} {g : α → PyData} : ∀ {l : List α}, (∀ x ∈ l, Dp K H (f x) (g x)) → DpAll K H (l.map f) (l.map g)
  | [], _ => .nil
  | x :: l, h => .cons (h x List.mem_cons_self) (dp_map fun y hy => h y (List.mem_cons_of_mem _ hy))

/-! ### walks with any body -/
theorem walk_any {J : It} {n : Nat} {G : Hp → Prop} {Y : Nat → Hp → V → Hp → Prop} (w : Walk J n G Y) {Z : Hp → Prop} {B : (Hp → Prop) → V → Hp → Prop} {H0 : Hp} (Pv : Nat → Hp → Prop) (h0 : Pv 0 H0) (hG : ∀ i H, i ≤ n → Pv i H → G H)
    (hs : ∀ i x H H', i < n → Pv i H → Y i H x H' → B (Pv (i + 1)) x H') (hd : ∀ H, Pv n H → Z H) :
    ∃ W : Nat → Nat → Hp → Prop, (∃ m, W 0 m H0) ∧ ∀ i m H, W i m H → (J.stop i H ∧ Z H) ∨ (J.go i H ∧ ∃ Nx : Hp → Prop, (∀ H', Nx H' → ∃ m', m' < m ∧ W (i + 1) m' H') ∧ ∀ x H', J.yld i H x H' → B Nx x H') := by
  refine ⟨fun i m H => m = n - i ∧ i ≤ n ∧ Pv i H, ⟨n, by simp, Nat.zero_le _, h0⟩, ?_⟩
  rintro i m H ⟨rfl, hi, p⟩
  have q := hG i H hi p
  by_cases hlt : i < n
  · exact .inr ⟨w.goes i H hlt q, Pv (i + 1), fun H' p' => ⟨n - (i + 1), by omega, rfl, hlt, p'⟩, fun x H' y => hs i x H H' hlt p (w.yields i H x H' hlt q y)⟩
  · have e : i = n := by omega
    subst e
    exact .inl ⟨w.stops H q, hd H p⟩

/-! ### a def with a star parameter alone -/
theorem okStar {P : Program} {w : World} {K : PySem.W.Frag} {mg : Str → Option Value} {base : Heap} {x qual pn : Str} {st : Stmt} {f : Addr} {fd : FuncData} {N : List Str} {k : Nat} {sp : Sp} (F : Fun K x qual st f fd) (S : FnScope N [pn] (defScope st))
    (hb : ∀ (kV doc pm : Value) (an : Option Addr) (cdv ct : Value) (rest : List Value), bindArgs (PySem.W.fnOf x qual (defArgs st) (defBody st) (defScope st) .none kV doc pm an cdv ct) ⟨rest, []⟩ = (newTuple rest >>= fun t => pure [(pn, t)]))
    (hbody : ∀ (cdv : Value) (A : Around) (outer : List Env) (s : Shared) (H : Hp) (vs : List V) (Q : VK) (E : XK), Room k (A.deeper (envOfC qual (defScope st) s.heap.objs.size f cdv)) → sp vs H Q E →
      ∃ t, PSs (cxOf CX0 P w K mg base N qual (defScope st) f cdv A outer s H E) (defBody st) t ∧ t { nx := fun _ H' => Q .non H', rt := Q } (start N vs) H) :
    FnR P w K mg base CX0 (k + 1) f (fun vs H Q E => vs.length ≤ sizeLine ∧ ∀ p, H p = none → sp [V.ref p] (upd H p (.tup vs)) Q E) := by
  obtain ⟨oc, od, kV, doc, pm, an, cdv, ct, osl, rfl, lk, hcd⟩ := F.ex
  have z := StX.fn_star (P := P) (w := w) (K := K) (mg := mg) (base := base) (CX := CX0) (ps := []) (sp := sp) lk hcd S StX.cxUp_none (fun us rest hl => by
    have e : us = [] := List.length_eq_zero_iff.mp hl
    subst e
    exact hb kV doc pm an cdv ct rest) (hbody cdv)
  exact z.imp fun vs H Q E h => ⟨[], vs, rfl, rfl, h.1, h.2⟩

/-- one parameter ahead of the star -/
theorem okStar1 {P : Program} {w : World} {K : PySem.W.Frag} {mg : Str → Option Value} {base : Heap} {x qual p1 pn : Str} {st : Stmt} {f : Addr} {fd : FuncData} {N : List Str} {k : Nat} {sp : Sp} (F : Fun K x qual st f fd) (S : FnScope N [p1, pn] (defScope st))
    (h0 : ∀ (kV doc pm : Value) (an : Option Addr) (cdv ct a : Value), bindArgs (PySem.W.fnOf x qual (defArgs st) (defBody st) (defScope st) .none kV doc pm an cdv ct) ⟨[a], []⟩ = (newTuple [] >>= fun t => pure [(p1, a), (pn, t)]))
    (h1 : ∀ (kV doc pm : Value) (an : Option Addr) (cdv ct a r : Value) (rs : List Value), bindArgs (PySem.W.fnOf x qual (defArgs st) (defBody st) (defScope st) .none kV doc pm an cdv ct) ⟨a :: r :: rs, []⟩ = (newTuple (r :: rs) >>= fun t => pure [(p1, a), (pn, t)]))
    (hbody : ∀ (cdv : Value) (A : Around) (outer : List Env) (s : Shared) (H : Hp) (vs : List V) (Q : VK) (E : XK), Room k (A.deeper (envOfC qual (defScope st) s.heap.objs.size f cdv)) → sp vs H Q E →
      ∃ t, PSs (cxOf CX0 P w K mg base N qual (defScope st) f cdv A outer s H E) (defBody st) t ∧ t { nx := fun _ H' => Q .non H', rt := Q } (start N vs) H) :
    FnR P w K mg base CX0 (k + 1) f (fun vs H Q E => ∃ v rest, vs = v :: rest ∧ rest.length ≤ sizeLine ∧ ∀ p, H p = none → sp [v, V.ref p] (upd H p (.tup rest)) Q E) := by
  obtain ⟨oc, od, kV, doc, pm, an, cdv, ct, osl, rfl, lk, hcd⟩ := F.ex
  have z := StX.fn_star (P := P) (w := w) (K := K) (mg := mg) (base := base) (CX := CX0) (ps := [p1]) (sp := sp) lk hcd S StX.cxUp_none
    (StX.bind_star1 (B := fun us => bindArgs (PySem.W.fnOf x qual (defArgs st) (defBody st) (defScope st) .none kV doc pm an cdv ct) ⟨us, []⟩) (h0 kV doc pm an cdv ct) (h1 kV doc pm an cdv ct)) (hbody cdv)
  exact z.imp fun vs H Q E ⟨v, rest, e, hl, h⟩ => ⟨[v], rest, e, rfl, hl, h⟩

/-! ### a walk over a list or a tuple, told once -/
theorem seq_case {K : PySem.W.Frag} {H : Hp} {a : Addr} {xs : List V} {R : It → Hp → Prop} (h : SqL K H a xs ∨ SqT K H a xs) (k : ∀ (J : It) (G : Hp → Prop), Walk J xs.length G (YAt xs) → (∀ H', Same H H' → G H') → R J H) : SeqCase K a H R := by
  rcases h with h | h
  · exact .inl ⟨⟨_, h⟩, k _ _ walk_list fun H' s => s.seq h⟩
  · exact .inr ⟨⟨_, h⟩, k _ _ walk_tup fun H' s => Bx.Same.tup s h⟩
theorem at_map {α : Type} {l : List α} {f : α → V} {i : Nat} {x : V} (h : (l.map f)[i]? = some x) : ∃ y, l[i]? = some y ∧ x = f y := by
  rw [List.getElem?_map] at h
  cases e : l[i]? with
  | none =>
    rw [e] at h
    cases h
  | some y =>
    rw [e] at h
    exact ⟨y, rfl, (Option.some.inj h).symm⟩

/-! ### texts in ascending order -/
theorem rising_at : ∀ (p : Str) (r : List Str), risingS p r = true → ∀ (k : Nat) (x y : Str), (p :: r)[k]? = some x → (p :: r)[k + 1]? = some y → ltCps y.cps.toList x.cps.toList = false
  | p, [], _, k, x, y, _, h2 => by
    simp at h2
  | p, q :: r, h, k, x, y, h1, h2 => by
    have h3 : (!ltCps q.cps.toList p.cps.toList && risingS q r) = true := h
    rw [Bool.and_eq_true] at h3
    cases k with
    | zero =>
      have e1 : p = x := Option.some.inj h1
      have e2 : q = y := Option.some.inj h2
      rw [← e1, ← e2]
      simpa using h3.1
    | succ k => exact rising_at q r h3.2 k x y h1 h2
theorem sorted_at {l : List Str} (h : sortedS l = true) (nd : l.Nodup) {k : Nat} {x y : Str} (h1 : l[k]? = some x) (h2 : l[k + 1]? = some y) : x.cps.toList < y.cps.toList := by
  cases l with
  | nil => cases h1
  | cons p r =>
    have a := rising_at p r h k x y h1 h2
    rw [ltCps_eq] at a
    refine Std.lt_of_le_of_ne (of_decide_eq_false a) fun e => ?_
    have e2 : x = y := ext_tl e
    obtain ⟨i1, e3⟩ := List.getElem?_eq_some_iff.mp h1
    obtain ⟨i2, e4⟩ := List.getElem?_eq_some_iff.mp h2
    have z := List.pairwise_iff_getElem.mp nd k (k + 1) i1 i2 (Nat.lt_succ_self k)
    exact z (e3.trans (e2.trans e4.symm))

/-! ### membership of texts -/
theorem inV_str (x : Str) (ys : List Str) : inV (.str x) (ys.map V.str) = decide (x ∈ ys) := by
  unfold inV
  rw [List.any_map]
  induction ys with
  | nil => rfl
  | cons y ys ih =>
    rw [List.any_cons, ih]
    show ((y == x) || _) = _
    by_cases e : y = x
    · subst e
      simp
    · have e2 : (y == x) = false := by simpa using e
      rw [e2, Bool.false_or]
      by_cases h : x ∈ ys
      · rw [decide_eq_true h, decide_eq_true (List.mem_cons_of_mem _ h)]
      · rw [decide_eq_false h, decide_eq_false (fun z => (List.mem_cons.mp z).elim (fun z => e z.symm) h)]
theorem flat_all (ys : List Str) : (ys.map V.str).all flatV = true := by
  rw [List.all_map, List.all_eq_true]
  intro y _
  rfl
theorem lay_strs : ∀ ys : List Str, (∀ y ∈ ys, PyData.strOk y = true) → PyData.canLayAll0 (ys.map PyData.str) = true ∧ PyData.depthAll (ys.map PyData.str) ≤ 1
  | [], _ => ⟨rfl, by decide⟩
  | y :: ys, h => by
    obtain ⟨a, b⟩ := lay_strs ys fun z hz => h z (List.mem_cons_of_mem _ hz)
    constructor
    · show (PyData.strOk y && PyData.canLayAll0 (ys.map PyData.str)) = true
      rw [a, h y List.mem_cons_self]
      rfl
    · show max (PyData.depth (.str y)) (PyData.depthAll (ys.map PyData.str)) ≤ 1
      exact Nat.max_le.mpr ⟨by first | exact Nat.zero_le _ | decide | exact Nat.le_refl _, b⟩
theorem lay_lists : ∀ L : List (List Str), (∀ ys ∈ L, ∀ y ∈ ys, PyData.strOk y = true) → PyData.canLayAll0 (L.map fun ys => PyData.list (ys.map PyData.str)) = true ∧ PyData.depthAll (L.map fun ys => PyData.list (ys.map PyData.str)) ≤ 2
  | [], _ => ⟨rfl, by decide⟩
  | ys :: L, h => by
    obtain ⟨a, b⟩ := lay_lists L fun z hz => h z (List.mem_cons_of_mem _ hz)
    obtain ⟨c, d⟩ := lay_strs ys (h ys List.mem_cons_self)
    constructor
    · show (PyData.canLayAll0 (ys.map PyData.str) && PyData.canLayAll0 (L.map fun ys => PyData.list (ys.map PyData.str))) = true
      rw [a, c]
      rfl
    · show max (PyData.depthAll (ys.map PyData.str) + 1) (PyData.depthAll (L.map fun ys => PyData.list (ys.map PyData.str))) ≤ 2
      exact Nat.max_le.mpr ⟨by omega, b⟩

/-! ### signs of a written text -/
theorem pick {L : Str} {r : Int} (h0 : 0 ≤ r) (h1 : r < (tl L).length) : ∃ c, atI L.cps.toList r = some c ∧ c ∈ tl L := by
  obtain ⟨n, rfl⟩ := Int.eq_ofNat_of_zero_le h0
  have hn : n < (tl L).length := by omega
  exact ⟨(tl L)[n], atI_nat (List.getElem?_eq_getElem hn), List.getElem_mem hn⟩
end Bx
/-! Data that stands in the heap, beside objects that change; rules told of data. -/
namespace Dx
open PySem PySem.Spec PyProof.Rows L2 Bx TL

/-! ### the heap without some addresses -/
def mn (H : Hp) (S : List Addr) : Hp := fun b => if b ∈ S then none else H b
theorem mn_in {H : Hp} {S : List Addr} {b : Addr} (h : b ∈ S) : mn H S b = none := if_pos h
theorem mn_out {H : Hp} {S : List Addr} {b : Addr} (h : b ∉ S) : mn H S b = H b := if_neg h
theorem mn_same {H : Hp} {S : List Addr} : Same (mn H S) H := fun b o e => by
  by_cases h : b ∈ S
  · rw [mn_in h] at e
    cases e
  · rw [mn_out h] at e
    exact e
theorem mn_nil {H : Hp} : mn H [] = H := funext fun b => mn_out (by simp)
theorem mn_sub {H : Hp} {S T : List Addr} (h : ∀ b, b ∈ S → b ∈ T) : Same (mn H T) (mn H S) := fun b o e => by
  by_cases h1 : b ∈ T
  · rw [mn_in h1] at e
    cases e
  · rw [mn_out h1] at e
    rw [mn_out fun z => h1 (h b z)]
    exact e
theorem mn_upd {H : Hp} {S : List Addr} {a : Addr} {o : HO} (h : a ∈ S) : mn (upd H a o) S = mn H S := funext fun b => by
  by_cases h1 : b ∈ S
  · rw [mn_in h1, mn_in h1]
  · rw [mn_out h1, mn_out h1, upd_ne (show b ≠ a from fun z => h1 (by rw [z]; exact h))]
theorem mn_new {H : Hp} {S : List Addr} {p : Addr} {o : HO} (h : H p = none) : Same (mn H S) (mn (upd H p o) S) := fun b u e => by
  by_cases h1 : b ∈ S
  · rw [mn_in h1] at e
    cases e
  · rw [mn_out h1] at e ⊢
    rw [upd_ne (ne_of_none e h)]
    exact e
theorem mn_but {H H' : Hp} {S : List Addr} {a : Addr} (h : a ∈ S) (s : SameBut a H H') : Same (mn H S) (mn H' S) := fun b u e => by
  by_cases h1 : b ∈ S
  · rw [mn_in h1] at e
    cases e
  · rw [mn_out h1] at e ⊢
    exact s b u (fun z => h1 (z ▸ h)) e
theorem mn_all {H H' : Hp} {S : List Addr} (s : Same H H') : Same (mn H S) (mn H' S) := fun b u e => by
  by_cases h1 : b ∈ S
  · rw [mn_in h1] at e
    cases e
  · rw [mn_out h1] at e ⊢
    exact s b u e
theorem mn_to {H H' : Hp} {S T : List Addr} (h : ∀ b, b ∈ S → b ∈ T) (s : Same (mn H S) (mn H' S)) : Same (mn H T) (mn H' T) := fun b u e => by
  by_cases h1 : b ∈ T
  · rw [mn_in h1] at e
    cases e
  · rw [mn_out h1] at e ⊢
    have z := s b u (by rw [mn_out fun z => h1 (h b z)]; exact e)
    rw [mn_out fun z => h1 (h b z)] at z
    exact z
/-- what is tracked beside S was there, or is new -/
theorem mn_at {H : Hp} {S : List Addr} {b : Addr} {o : HO} (h : b ∉ S) (e : H b = some o) : mn H S b = some o := by
  rw [mn_out h]
  exact e
theorem mn_keep {H H' : Hp} {S : List Addr} (s : Same (mn H S) (mn H' S)) {b : Addr} {o : HO} (h : b ∉ S) (e : H b = some o) : H' b = some o := mn_same _ _ (s _ _ (mn_at h e))
theorem mn_free {H H' : Hp} {S : List Addr} (s : Same (mn H S) (mn H' S)) {b : Addr} (h : b ∉ S) (e : H' b = none) : H b = none := by
  cases z : H b with
  | none => rfl
  | some o =>
    rw [mn_keep s h z] at e
    cases e

/-! ### data -/
section
variable {K : PySem.W.Frag} {H : Hp}
theorem dp_lst {v : V} {ds : List PyData} (h : Dp K H v (.list ds)) : ∃ a xs, v = .ref a ∧ SqL K H a xs ∧ DpAll K H xs ds := by
  cases h with
  | lst s a => exact ⟨_, _, rfl, s, a⟩
theorem dp_tup {v : V} {ds : List PyData} (h : Dp K H v (.tuple ds)) : ∃ a xs, v = .ref a ∧ SqT K H a xs ∧ DpAll K H xs ds := by
  cases h with
  | tup s a => exact ⟨_, _, rfl, s, a⟩
theorem dp_str {v : V} {s : Str} (h : Dp K H v (.str s)) : v = .str s := by cases h; rfl
theorem dp_int {v : V} {i : Int} (h : Dp K H v (.int i)) : v = .int i := by cases h; rfl
theorem da_len : ∀ {xs : List V} {ds : List PyData}, DpAll K H xs ds → xs.length = ds.length
  | _, _, .nil => rfl
  | _, _, .cons _ t => congrArg (· + 1) (da_len t)
theorem da_get : ∀ {xs : List V} {ds : List PyData}, DpAll K H xs ds → ∀ {i : Nat} {d : PyData}, ds[i]? = some d → ∃ v, xs[i]? = some v ∧ Dp K H v d
  | _, _, .nil, i, d, e => by cases e
  | _, _, .cons h t, 0, d, e => by
    cases e
    exact ⟨_, rfl, h⟩
  | _, _, .cons h t, i + 1, d, e => da_get t e
theorem da_at : ∀ {xs : List V} {ds : List PyData}, DpAll K H xs ds → ∀ {i : Nat} {v : V}, xs[i]? = some v → ∃ d, ds[i]? = some d ∧ Dp K H v d
  | _, _, .nil, i, d, e => by cases e
  | _, _, .cons h t, 0, d, e => by
    cases e
    exact ⟨_, rfl, h⟩
  | _, _, .cons h t, i + 1, d, e => da_at t e
theorem da_app : ∀ {xs ys : List V} {ds es : List PyData}, DpAll K H xs ds → DpAll K H ys es → DpAll K H (xs ++ ys) (ds ++ es)
  | _, _, _, _, .nil, h => h
  | _, _, _, _, .cons h t, k => .cons h (da_app t k)
theorem da_one {v : V} {d : PyData} (h : Dp K H v d) : DpAll K H [v] [d] := .cons h .nil
theorem da_strs : ∀ {xs : List V} {ns : List Str}, DpAll K H xs (ns.map PyData.str) → xs = ns.map V.str
  | [], [], _ => rfl
  | [], _ :: _, h => by cases h
  | _ :: _, [], h => by cases h
  | x :: xs, n :: ns, h => by
    cases h with
    | cons h t =>
      rw [dp_str h, da_strs t]
      rfl
theorem da_ints : ∀ {xs : List V} {ns : List Int}, DpAll K H xs (ns.map PyData.int) → xs = ns.map V.int
  | [], [], _ => rfl
  | [], _ :: _, h => by cases h
  | _ :: _, [], h => by cases h
  | x :: xs, n :: ns, h => by
    cases h with
    | cons h t =>
      rw [dp_int h, da_ints t]
      rfl
theorem da_take : ∀ {xs : List V} {ds : List PyData}, DpAll K H xs ds → ∀ n, DpAll K H (xs.take n) (ds.take n)
  | _, _, .nil, n => by
    rw [List.take_nil, List.take_nil]
    exact .nil
  | _, _, .cons h t, 0 => .nil
  | _, _, .cons h t, n + 1 => .cons h (da_take t n)
/-- the strs of a tuple of texts -/
theorem dp_names {v : V} {ns : List Str} (h : Dp K H v (.tuple (ns.map PyData.str))) : ∃ a, v = .ref a ∧ SqT K H a (ns.map V.str) := by
  obtain ⟨a, xs, rfl, s, t⟩ := dp_tup h
  rw [da_strs t] at s
  exact ⟨a, rfl, s⟩
theorem dp_namesL {v : V} {ns : List Str} (h : Dp K H v (.list (ns.map PyData.str))) : ∃ a, v = .ref a ∧ SqL K H a (ns.map V.str) := by
  obtain ⟨a, xs, rfl, s, t⟩ := dp_lst h
  rw [da_strs t] at s
  exact ⟨a, rfl, s⟩
theorem names_dp {a : Addr} {ns : List Str} (h : SqT K H a (ns.map V.str)) : Dp K H (.ref a) (.tuple (ns.map PyData.str)) := .tup h (dp_strs ns)
theorem namesL_dp {a : Addr} {ns : List Str} (h : SqL K H a (ns.map V.str)) : Dp K H (.ref a) (.list (ns.map PyData.str)) := .lst h (dp_strs ns)
end

/-! ### what may be compared: no dicts, not too deep -/
def Lay (n : Nat) (d : PyData) : Prop := d.canLay0 = true ∧ d.depth ≤ n
def Lays (n : Nat) (ds : List PyData) : Prop := PyData.canLayAll0 ds = true ∧ PyData.depthAll ds ≤ n
theorem lays_nil {n : Nat} : Lays n [] := ⟨rfl, Nat.zero_le _⟩
theorem lays_cons {n : Nat} {d : PyData} {ds : List PyData} (h : Lay n d) (t : Lays n ds) : Lays n (d :: ds) := by
  constructor
  · show (d.canLay0 && PyData.canLayAll0 ds) = true
    rw [h.1, t.1]
    rfl
  · show max d.depth (PyData.depthAll ds) ≤ n
    exact Nat.max_le.mpr ⟨h.2, t.2⟩
theorem lays_of {n : Nat} : ∀ {ds : List PyData}, (∀ d ∈ ds, Lay n d) → Lays n ds
  | [], _ => lays_nil
  | d :: ds, h => lays_cons (h d List.mem_cons_self) (lays_of fun x hx => h x (List.mem_cons_of_mem _ hx))
theorem lay_tuple {n : Nat} {ds : List PyData} (h : Lays n ds) : Lay (n + 1) (.tuple ds) := ⟨h.1, Nat.succ_le_succ h.2⟩
theorem lay_list {n : Nat} {ds : List PyData} (h : Lays n ds) : Lay (n + 1) (.list ds) := ⟨h.1, Nat.succ_le_succ h.2⟩
theorem lay_int {n : Nat} {i : Int} : Lay n (.int i) := ⟨rfl, Nat.zero_le _⟩
theorem lay_str {n : Nat} {s : Str} (h : PyData.strOk s = true) : Lay n (.str s) := ⟨h, Nat.zero_le _⟩
theorem lay_up {m n : Nat} {d : PyData} (h : Lay m d) (k : m ≤ n) : Lay n d := ⟨h.1, Nat.le_trans h.2 k⟩
theorem lays_up {m n : Nat} {ds : List PyData} (h : Lays m ds) (k : m ≤ n) : Lays n ds := ⟨h.1, Nat.le_trans h.2 k⟩
theorem lays_mem {n : Nat} : ∀ {ds : List PyData}, Lays n ds → ∀ d ∈ ds, Lay n d
  | d :: ds, h, x, hx => by
    have h1 : (d.canLay0 && PyData.canLayAll0 ds) = true := h.1
    have h2 : max d.depth (PyData.depthAll ds) ≤ n := h.2
    rw [Bool.and_eq_true] at h1
    rw [Nat.max_le] at h2
    rcases List.mem_cons.mp hx with e | e
    · rw [e]
      exact ⟨h1.1, h2.1⟩
    · exact lays_mem ⟨h1.2, h2.2⟩ x e
theorem lays_strs {n : Nat} {ns : List Str} (h : ∀ s ∈ ns, PyData.strOk s = true) : Lays n (ns.map PyData.str) := lays_of fun d hd => by
  obtain ⟨s, hs, rfl⟩ := List.mem_map.mp hd
  exact lay_str (h s hs)
theorem lays_ints {n : Nat} {ns : List Int} : Lays n (ns.map PyData.int) := lays_of fun d hd => by
  obtain ⟨s, _, rfl⟩ := List.mem_map.mp hd
  exact lay_int
theorem shape {n : Nat} {d : PyData} (h : Lay n d) (k : n ≤ 64) : SeqAt.shaped d = true := by
  unfold SeqAt.shaped
  rw [Bool.and_eq_true]
  exact ⟨h.1, decide_eq_true (Nat.le_trans h.2 k)⟩
theorem eq_refl {n : Nat} {d : PyData} (h : Lay n d) : PyData.eqv d d = true := SeqAt.eqv_refl d h.1

/-! ### strict order of lists of texts, and equal lists -/
def Asc (l : List Str) : Prop := l.Pairwise fun x y => x.cps.toList < y.cps.toList
theorem asc_of : ∀ {l : List Str}, sortedS l = true → l.Nodup → Asc l := by
  intro l h nd
  have key : ∀ (d i : Nat) (x y : Str), l[i]? = some x → l[i + (d + 1)]? = some y → x.cps.toList < y.cps.toList := by
    intro d
    induction d with
    | zero => exact fun i x y h1 h2 => sorted_at h nd h1 h2
    | succ d ih =>
      intro i x y h1 h2
      have hl : i + (d + 1) < l.length := by
        have := (List.getElem?_eq_some_iff.mp h2).1
        omega
      have h3 : l[i + (d + 1)]? = some l[i + (d + 1)] := List.getElem?_eq_getElem hl
      exact List.lt_trans (ih i x _ h1 h3) (sorted_at h nd h3 h2)
  refine List.pairwise_iff_getElem.mpr fun i j hi hj hij => ?_
  exact key (j - i - 1) i _ _ (List.getElem?_eq_getElem hi) (by rw [show i + (j - i - 1 + 1) = j by omega]; exact List.getElem?_eq_getElem hj)
theorem asc_nodup {l : List Str} (h : Asc l) : l.Nodup := List.Pairwise.imp (fun {x y} hxy e => by
  rw [e] at hxy
  exact List.lt_irrefl _ hxy) h
theorem asc_eq : ∀ {l m : List Str}, Asc l → Asc m → (∀ x, x ∈ l ↔ x ∈ m) → l = m
  | [], [], _, _, _ => rfl
  | [], y :: m, _, _, h => absurd ((h y).mpr List.mem_cons_self) (by simp)
  | x :: l, [], _, _, h => absurd ((h x).mp List.mem_cons_self) (by simp)
  | x :: l, y :: m, h1, h2, h => by
    obtain ⟨a1, a2⟩ := List.pairwise_cons.mp h1
    obtain ⟨b1, b2⟩ := List.pairwise_cons.mp h2
    have e : x = y := by
      rcases List.mem_cons.mp ((h x).mp List.mem_cons_self) with e | e
      · exact e
      · rcases List.mem_cons.mp ((h y).mpr List.mem_cons_self) with e' | e'
        · exact e'.symm
        · exact absurd (List.lt_trans (a1 y e') (b1 x e)) (List.lt_irrefl _)
    subst e
    have nl : x ∉ l := fun z => List.lt_irrefl _ (a1 x z)
    have nm : x ∉ m := fun z => List.lt_irrefl _ (b1 x z)
    rw [asc_eq a2 b2 fun z => ⟨fun hz => (List.mem_cons.mp ((h z).mp (List.mem_cons_of_mem _ hz))).resolve_left fun e => nl (e ▸ hz), fun hz => (List.mem_cons.mp ((h z).mpr (List.mem_cons_of_mem _ hz))).resolve_left fun e => nm (e ▸ hz)⟩]

/-! ### sorted(xs), xs tuples of ints of one length: some order -/
def rSortRows (K : PySem.W.Frag) : List V → Hp → VK → Prop := fun vs H Q => ∃ (a : Addr) (xs : List V) (d : Nat) (B : Int), vs = [V.ref a] ∧ SqL K H a xs ∧ xs.length < 64 ∧ (∀ x ∈ xs, ∃ ns, TupI K H x ns ∧ ns.length = d ∧ TS.Bd B ns) ∧ (d = 0 → xs.length ≤ 1) ∧
  ∀ (ys : List V) (p : Addr), ys.Perm xs → H p = none → Q (.ref p) (upd H p (.lst ys))
theorem cr_sortRows {X : Cx} : CallR X (.builtin "sorted") (rSortRows X.K) := by
  intro pins s σ H vs us Q I r h
  obtain ⟨a, xs, d, B, rfl, hs, h64, hx, h1, q⟩ := h
  by_cases hd : 1 ≤ d
  · exact cr_sortT hd pins s σ H _ us Q I r ⟨a, xs, rfl, hs, h64, hx, fun ys p pm _ n => q ys p pm n⟩
  · have hl1 : xs.length ≤ 1 := h1 (by omega)
    obtain ⟨its, rv, hl, hz⟩ := I.list hs
    have hlen := rv.length
    rw [Vals.ref1 r]
    refine Srt.sorted_any hl.isList (by rw [← hlen]; exact hz) (fun h2 => absurd h2 (by omega)) fun out hp => ?_
    have e : out = its := by
      match its, hlen, hp with
      | [], _, hp => exact hp.eq_nil
      | [v], _, hp => exact List.perm_singleton.mp hp
      | _ :: _ :: _, hlen, _ =>
        simp only [List.length_cons] at hlen
        omega
    subst e
    obtain ⟨ep, he'⟩ := PyProof.Rows.sortedAll_at s.heap out out.toArray
    exact ⟨.ref _, upd H (s.heap.objs.size + 1) (.lst xs), I.laid (t' := s.toks) (fun _ _ => PyProof.Rows.sortedAll_old) (Nat.le_succ _) ⟨hz, out, ep, rv, by simpa using he'⟩, rfl, q xs _ (List.Perm.refl _) (I.hok.fresh (Nat.le_succ _))⟩

/-! ### the room of a call for a comparison of data -/
theorem room {k : Nat} {A : Around} (r : Room k A) : A.units + 65 < cLine := by
  have := r.un
  omega

/-! ### a list or a tuple of data -/
theorem dp_seq {K : PySem.W.Frag} {H : Hp} {v : V} {ds : List PyData} (h : Dp K H v (.list ds) ∨ Dp K H v (.tuple ds)) : ∃ a xs, v = .ref a ∧ DpAll K H xs ds ∧ (SqL K H a xs ∨ SqT K H a xs) := by
  rcases h with h | h
  · obtain ⟨a, xs, rfl, s, t⟩ := dp_lst h
    exact ⟨a, xs, rfl, t, .inl s⟩
  · obtain ⟨a, xs, rfl, s, t⟩ := dp_tup h
    exact ⟨a, xs, rfl, t, .inr s⟩

/-! ### name = {k: v for ..} -/
section
variable {X : Cx}
theorem ps_setDc {i : Nat} {y : Str} {py : Pos} {kx vx tg iter : Expr} {ifs : List Expr} {scope : Scope} {own : List (Str × Nat)} {pos spos : Pos} {wi : TI} {g : TG} {tt : TT} {tk tv : TE} (hc : X.calm = true) (hN : X.N.Nodup) (hy : X.N[i]? = some y) (hyl : X.env.scope.names.lookup y = some .local)
    (hsw : swapsWith (.DictComp kx vx [⟨tg, iter, ifs, 0⟩] scope pos) (some (.Name y py)) spos.line X.env = pure true) (hi : PI X tg iter wi) (ok : BlkOk X.N X.env.scope scope own)
    (hg : ∀ (s : Shared) (H : Hp) (C : Addr) (cl : List (Str × Addr)) (fp : List Addr), PG (X.blk s H scope (compEnvC scope cl C X.env) fp) tg g) (ht : ∀ (s : Shared) (H : Hp) (C : Addr) (cl : List (Str × Addr)) (fp : List Addr), PTs (X.blk s H scope (compEnvC scope cl C X.env) fp) ifs tt)
    (hk : ∀ (s : Shared) (H : Hp) (C : Addr) (cl : List (Str × Addr)) (fp : List Addr), PE (X.blk s H scope (compEnvC scope cl C X.env) fp) kx tk)
    (he : ∀ (s : Shared) (H : Hp) (C : Addr) (cl : List (Str × Addr)) (fp : List Addr), PE (X.blk s H scope (compEnvC scope cl C X.env) fp) vx tv) (hs : ∀ x, foldedSetIterable iter X.env x = pure x := by intro _; rfl) :
    PS X (.Assign [.Name y py] (.DictComp kx vx [⟨tg, iter, ifs, 0⟩] scope pos) spos) (tAsg (tDc wi g tt tk tv (own.map (·.2))) (gName i)) := by
  refine ⟨fun pins s σ H D I h => ?_⟩
  rw [exec_Assign_Name_used _ _ _ _ hsw]
  refine wpAny_bind (wpAny_standAt (wpAny_bind ?_))
  show wpAny _ X.A (do let _ ← comprehension (.DictComp kx vx [⟨tg, iter, ifs, 0⟩] scope pos) scope X.env _ newDict false (eval iter X.env) (some (assign (.Name y py) X.env))) _ _ s
  have h : tDc wi g tt tk tv (own.map (·.2)) σ H (fun x H1 => gName i x σ H1 D.nx) := h
  refine wpAny_bind (thn (dc_core (Qf := fun _ s' => SP X pins D .next s') hc hN I hi ok hg ht hk he hs h fun L C s' m H' I' q hn f => ?_) fun _ s' hq => wpAny_pure (wpAny_pure hq))
  show wpAny _ _ (assign (.Name y py) X.env (.ref L)) _ _ _
  refine wpAny_assign_Name (store_ok2 (v := V.ref L) I' hN hy (.inl hyl) rfl (fun s2 I2 ⟨a, sb, ha⟩ => ?_) (.inr hyl))
  obtain ⟨f0, f1, f2, f3, f4, f5⟩ := f
  have haC : C ≠ a := by
    rcases ha with z | z
    · rw [z]; exact f1
    · exact fun e => f4 y a z e.symm
  refine ⟨m, hn.sameBut sb haC, fun h3 sb3 => ?_⟩
  exact ⟨_, H', I2.turned (t' := s2.toks) (fun b o hb e => (sb3.2 b hb).trans e) f0 f1 f3 f4 f5, q⟩
theorem sw_trueD {kx vx : Expr} {gs : List Comprehension} {scope : Scope} {pos py : Pos} {y : Str} {l : Nat} {env : Env} (hk : env.scope.kind = .function) (hy : env.scope.names.lookup y = some .local) (hl : (py.line == pos.line) = true)
    (ha : (scope.names.any fun (n, k) => n == y && (k == .local || k == .cell)) = false) : swapsWith (.DictComp kx vx gs scope pos) (some (.Name y py)) l env = pure true := by
  have ky : env.kindOf y = some .local := hy
  have hb : env.blockKind = .function := by unfold Env.blockKind; rw [hk]; rfl
  unfold swapsWith
  simp only [hb, ky, ha, Expr.pos, hl]
  rfl
end
end Dx
/-! Own errors with one field, whose __init__ says super().__init__(f'..'). -/
namespace Er
open PySem PySem.Spec PyProof.Rows L2 Bx TL Dx Sup NdefX
/-- __init__(self, y): the error at a gets a dict with f = y -/
def spErr (ok : V → Prop) (C : Addr) (f : Str) : Sp := fun vs H Q _ => ∃ (a : Addr) (v : V), vs = [.ref a, v] ∧ ok v ∧ H a = some (exo a C none) ∧
  ∀ (d : Addr) (H' : Hp), (∀ b o, b ≠ a → H b = some o → H' b = some o) → H d = none → d ≠ a → H' a = some (exo a C (some d)) → H' d = some (exd d [(f, v)]) → Q .non H'
/-- the class at C, named x: an own error over ValueError with one field -/
structure Err (P : Program) (w : World) (K : PySem.W.Frag) (mg : Str → Option Value) (base : Heap) (x : Str) (C : Addr) (f y : Str) (ok : V → Prop) (k : Nat) : Prop where
  init : ∃ (fI : Addr) (fd : FuncData), PySem.W.findIn K (.ref C) "__init__" = some (some (.ref fI)) ∧ PySem.W.typeIn K (.ref fI) = some (.type "function") ∧ FnOk P w K mg base CX0 k fI fd ["self", y] (spErr ok C f) ∧ Binds K fd ["self", y] []
  exc : OexC K C
  g : mg x = some (.ref C)
  te : PySem.W.exmOne K (.ref C) (.ref C) = some true
  xf : XfC K C
  no : PySem.W.findIn K (.ref C) f = some none
section
variable {X : Cx} {x : Str} {C : Addr} {f y : Str} {ok : V → Prop} {k : Nat} {e : Expr} {te : TE} {p pos pos' : Pos} {W : WX}
theorem ps_raiseE (c : Err X.prog X.w X.K X.mg X.base x C f y ok k) (hc : X.calm = true) (tk : Takes X W) (hr : Room (k + 1) X.A) (he : PE X e te) (hg : Gl X x := by rfl) (hdb : (x == ("__debug__" : Str)) = false := by decide)
    (hst : starEach [e] X.env = (false, eval e X.env) :: starEach [] X.env := by rfl) (hpl : (backTo pos (starEach [] X.env)).any (·.1) = false := by rfl) :
    PS X (.Raise (some (.Call (.Name x p) [e] [] pos)) none pos') (fun _ σ H => te σ H fun v H1 => ok v ∧ ∀ d H3, Same H1 H3 → H1 d = none → H3 d = some (.xd [(f, v)]) → W (.ref C) (some d) σ H3) := by
  obtain ⟨fI, fd, iC, tI, F1, hb⟩ := c.init
  have he2 : PE X e (fun σ H Q => ∃ R : VK, te σ H R ∧ ∀ v H1, R v H1 → Q v H1) := ⟨fun pins s σ H Q I ⟨R, h, hR⟩ => thn (he.run pins s σ H R I h) fun v s1 ⟨x, H1, I1, r, q⟩ => ⟨x, H1, I1, r, hR _ _ q⟩⟩
  have z := ps_raise (pos := pos') hc tk (pmk_oex (pos := pos) (p := p) (dvs := []) c.exc iC tI F1 hr hb .nil (pass0) hg c.g (pa_cons he2 pa_nil hst) hdb hst hpl)
  refine ⟨fun pins s σ H D I h => z.run pins s σ H D I ?_⟩
  refine ⟨_, h, fun v H1 hq => ?_⟩
  obtain ⟨hok, hw⟩ := hq
  refine ⟨by show 1 ≤ 1000; decide, fun a na => ⟨a, v, rfl, hok, upd_same, fun d H' keep nd da ea ed => ?_⟩⟩
  have nd1 : H1 d = none := by
    rw [upd_ne da] at nd
    exact nd
  refine ⟨rfl, d, _, ea, ed, nd1, hw d _ (fun b o e => ?_) nd1 upd_same⟩
  have ba : b ≠ a := ne_of_none e na
  rw [upd_ne (ne_of_none e nd1), del_ne ba]
  exact keep b o ba (by rw [upd_ne ba]; exact e)
end
/-! ### isinstance of an error with a dict -/
def rIsD (K : PySem.W.Frag) (a : Addr) (cls : Value) (d : Option Addr) : List V → Hp → VK → Prop := fun xs H Q => ∃ (D dd : Addr) (c : V) (cv : Value) (b : Bool) (fs : List (Str × V)), xs = [.ref a, c] ∧ cls = .ref D ∧ d = some dd ∧ (PySem.W.clsIn K D).isSome = true ∧ ExcC K D ∧
  H dd = some (.xd fs) ∧ (∀ u, RelV c u → u = cv) ∧ PySem.W.kitOne K (.ref D) cv = some b ∧ Q (.bl b) H
theorem call_isD {X : Cx} {a : Addr} {cls : Value} {d : Option Addr} {oe : Obj} {pn : List (Addr × Obj)} (hz : Zc cls d oe) (hf : ∃ vs, oe.data = .fields vs) : CallR (X.suite a ((a, oe) :: pn)) (.builtin "isinstance") (rIsD X.K a cls d) := by
  intro pins s σ H xs us Q I r h
  obtain ⟨D, dd, c, cv, b, fs, rfl, rfl, rfl, hcl, C, hdd, hcv, e, q⟩ := h
  cases r with
  | cons rx rr =>
    cases rr with
    | cons rt rr =>
      cases rr
      cases rx
      have ec := hcv _ rt
      subst ec
      obtain ⟨hget, _⟩ := I.pin (a, oe) (List.mem_append.mpr (.inl List.mem_cons_self))
      obtain ⟨vs, hv⟩ := hf
      obtain ⟨oD, hD⟩ : ∃ o, s.heap.get? dd = some o := by
        obtain ⟨mA, hn, _⟩ := I.hok dd _ hdd
        obtain ⟨o, _, _, e, _⟩ := hn
        exact ⟨o, e⟩
      have J : PySem.W.InstAt s.heap a oe D (some oD) := by
        obtain ⟨oc, od, oda, osl⟩ := oe
        obtain ⟨h1, h2⟩ := hz
        dsimp only at h1 h2 hv
        subst h1 h2 hv
        exact ⟨hget, rfl, rfl, hD⟩
      exact PySem.W.kia_one (PySem.W.kitx_exc hcl C.hg C.hk C.hs C.ha C.hn C.ht C.hm) I.kIn J e (fun z => nomatch z) fun tk => ⟨.bl b, H, I.kept (t' := tk) fun _ _ z => z, rfl, q⟩
/-! ### calls of defs that may raise -/
section
variable {X : Cx} {CX : CXT} {k n : Nat} {f : Addr} {fd : FuncData} {ps ks : List Str} {sp : Sp} {E : L2.St → XK} {x : Str} {p pos : Pos} {e : Expr} {es : List Expr} {kws : List Keyword} {t tk : TA} {g : List Value → List Value → List Value} {gV : List V → List V → List V}
theorem run_fnNS {pins : List (Addr × Obj)} {σ : L2.St} {H : Hp} {s : Shared} {Q : VK} {us ws : List Value} {vs zs : List V} (F : FnOk X.prog X.w X.K X.mg X.base CX k f fd ps sp) (hr : Room k X.A) (hb : KBn X.K fd ps n ks g gV) (hx : PassesAt CX X σ (E σ))
    (I : Inv X pins σ H s) (r : Vals vs us) (rz : Vals zs ws) (l1 : vs.length = n) (l2 : zs.length = ks.length) (h : sp (gV vs zs) H Q (E σ)) : wpAny (model X.prog X.w) X.A (call (.ref f) us (ks.zip ws)) (EP X pins σ Q) X.xe s := by
  refine wpAny_call (codeAny_mono (F.run X.A X.stack s H ⟨us, ks.zip ws⟩ (g us ws) (gV vs zs) Q (E σ) hr I.env0 (hb.to s us ws I.kIn (by rw [← r.length]; exact l1) (by rw [← rz.length]; exact l2)) (hb.rel r rz) h) fun r s' hq => ?_)
  cases r with
  | error e => exact hx pins H s e s' I hq
  | ok fl =>
    cases fl with
    | ret u => exact I.after hq
    | next => exact False.elim hq
    | brk => exact False.elim hq
    | cont => exact False.elim hq
def tCallNS (n m : Nat) (sp : Sp) (gV : List V → List V → List V) (E : L2.St → XK) (t tk : TA) : TE := fun σ H Q => t σ H fun vs H1 => tk σ H1 fun zs H2 => vs.length = n ∧ zs.length = m ∧ sp (gV vs zs) H2 Q (E σ)
theorem pe_callNS (F : FnOk X.prog X.w X.K X.mg X.base CX k f fd ps sp) (hr : Room k X.A) (hg : Gl X x) (hm : X.mg x = some (.ref f)) (hk : PySem.W.keepIn X.K (.ref f) = true) (hb : KBn X.K fd ps n ks g gV) (hx : ∀ σ, PassesAt CX X σ (E σ))
    (ha : PA X (e :: es) t) (hkw : PK X kws tk) (hall : (backToKw pos (keywordEach kws X.env)).all (·.1.isSome) = true := by rfl) (hks : (backToKw pos (keywordEach kws X.env)).filterMap (·.1) = ks := by rfl)
    (hdb : (x == ("__debug__" : Str)) = false := by decide) (he : starEach (e :: es) X.env = (false, eval e X.env) :: starEach es X.env := by rfl)
    (hpl : ((backTo pos (starEach (e :: es) X.env)).any (·.1) || (backToKw pos (keywordEach kws X.env)).any (·.1.isNone)) = false := by rfl) :
    PE X (.Call (.Name x p) (e :: es) kws pos) (tCallNS n ks.length sp gV E t tk) := by
  refine ⟨fun pins s σ H Q I h => ?_⟩
  refine wpAny_Call_Name_kw (ld_glob I hg hm ?_ hdb)
  refine PySem.W.callWith_KW (h₀ := X.base) I.ok.mod.kin hk hall (thn (ha.run pos pins s σ H _ I h) fun us s1 ⟨vs, H1, I1, r, q⟩ => ?_) hpl he
  refine thn (hkw.run pos pins s1 σ H1 _ I1 q) fun ws s2 ⟨zs, H2, I2, rz, l1, l2, q2⟩ => ⟨I2.kIn, ?_⟩
  rw [hks]
  exact run_fnNS F hr hb (hx σ) I2 r rz l1 l2 q2
/-- the module's name x holds a def of one parameter and a keyword-only one with a default; it may raise -/
structure CalX (P : Program) (w : World) (K : PySem.W.Frag) (mg : Str → Option Value) (base : Heap) (x y : Str) (k : Nat) (ps : List Str) (dv : V) (sp : Sp) : Prop where
  ex : ∃ (f : Addr) (fd : FuncData), FnOk P w K mg base (L2.CX P w) k f fd ps sp ∧ mg x = some (.ref f) ∧ PySem.W.keepIn K (.ref f) = true ∧ (∃ ds, Vals [dv] ds ∧ Binds K fd ps ds) ∧ KBn K fd ps 1 [y] (fun us ws => us ++ ws) (fun vs zs => vs ++ zs)
variable {y : Str} {dv : V} {W : WX} {tk1 : TA}
def tCalX (sp : Sp) (dv : V) (W : WX) (t : TA) : TE := fun σ H Q => t σ H fun vs H1 => sp (vs ++ [dv]) H1 Q (fun cls d H' => W cls d σ H')
def tCalXK (sp : Sp) (W : WX) (t tk : TA) : TE := fun σ H Q => t σ H fun vs H1 => tk σ H1 fun zs H2 => vs.length = 1 ∧ zs.length = 1 ∧ sp (vs ++ zs) H2 Q (fun cls d H' => W cls d σ H')
theorem pe_calX (c : CalX X.prog X.w X.K X.mg X.base x y k ps dv sp) (tkW : Takes X W) (hr : Room k X.A) (ha : PA X (e :: es) t) (hg : Gl X x := by rfl) (hdb : (x == ("__debug__" : Str)) = false := by decide)
    (he : starEach (e :: es) X.env = (false, eval e X.env) :: starEach es X.env := by rfl) (hpl : (backTo pos (starEach es X.env)).any (·.1) = false := by rfl) : PE X (.Call (.Name x p) (e :: es) [] pos) (tCalX sp dv W t) := by
  obtain ⟨f, fd, ok, hm, kp, ⟨ds, hv, hb⟩, _⟩ := c.ex
  have z := pe_callSD (E := fun σ cls d H' => W cls d σ H') ok hr hg hm kp hb hv (fun σ => passAt tkW σ) ha hdb he hpl (p := p)
  exact ⟨fun pins s σ H Q I h => z.run pins s σ H Q I h⟩
theorem pe_calXK (c : CalX X.prog X.w X.K X.mg X.base x y k ps dv sp) (tkW : Takes X W) (hr : Room k X.A) (ha : PA X (e :: es) t) (hkw : PK X kws tk1) (hg : Gl X x := by rfl) (hall : (backToKw pos (keywordEach kws X.env)).all (·.1.isSome) = true := by rfl) (hks : (backToKw pos (keywordEach kws X.env)).filterMap (·.1) = [y] := by rfl)
    (hdb : (x == ("__debug__" : Str)) = false := by decide) (he : starEach (e :: es) X.env = (false, eval e X.env) :: starEach es X.env := by rfl)
    (hpl : ((backTo pos (starEach (e :: es) X.env)).any (·.1) || (backToKw pos (keywordEach kws X.env)).any (·.1.isNone)) = false := by rfl) : PE X (.Call (.Name x p) (e :: es) kws pos) (tCalXK sp W t tk1) := by
  obtain ⟨f, fd, ok, hm, kp, _, hb⟩ := c.ex
  have z := pe_callNS (E := fun σ cls d H' => W cls d σ H') ok hr hg hm kp hb (fun σ => passAt tkW σ) ha hkw hall hks hdb he hpl (p := p)
  exact ⟨fun pins s σ H Q I h => z.run pins s σ H Q I h⟩
end
end Er
/-! zip of two tuples, walked; great products and quotients; xs[::-1]. -/
namespace Zx
open PySem PySem.Spec PyProof.Rows L2 Bx TL Dx
theorem walk_zipT {K : PySem.W.Frag} {a b : Addr} {xs ys : List V} {n : Nat} (hn : n = min xs.length ys.length) : Walk (RZ.ItzT K a b) n (fun H => SqT K H a xs ∧ SqT K H b ys) (YPair (fun i => xs[i]?) (fun i => ys[i]?)) := by
  subst hn
  refine ⟨fun i _ hi q => ?_, fun _ q => ⟨xs, ys, q.1, q.2, by omega⟩, fun i H v H' _ q y => ?_⟩
  · have h1 : i < xs.length := by omega
    have h2 : i < ys.length := by omega
    exact ⟨xs, ys, xs[i], ys[i], q.1, q.2, by simp [h1], by simp [h2]⟩
  · obtain ⟨T, x, z, h1, h2, h3, h4, h5⟩ := y
    exact ⟨T, x, z, h1, h2, h3, h4 xs q.1, h5 ys q.2⟩
end Zx
namespace Zx
open PySem PySem.Spec PyProof.Rows L2
theorem ne_t {p : Prop} [Decidable p] (h : (!decide p) = true) : ¬ p := by simpa using h
theorem ne_f {p : Prop} [Decidable p] (h : ¬ (!decide p) = true) : p := by simpa using h
theorem int_t {x y : Int} (h : decide (V.int x = V.int y) = true) : x = y := V.int.inj (of_decide_eq_true h)
theorem int_f {x y : Int} (h : ¬ decide (V.int x = V.int y) = true) : x ≠ y := fun e => h (decide_eq_true (congrArg V.int e))
theorem int_nt {x y : Int} (h : (!decide (V.int x = V.int y)) = true) : x ≠ y := fun e => ne_t h (congrArg V.int e)
theorem int_nf {x y : Int} (h : ¬ (!decide (V.int x = V.int y)) = true) : x = y := V.int.inj (ne_f h)
end Zx
namespace Zx
open PySem PySem.Spec PyProof.Rows L2 Bx
section
variable {K : PySem.W.Frag}
theorem ty_tup {H : Hp} {a : Addr} {xs : List V} (h : SqT K H a xs) : TyX K H (.ref a) (.type "tuple") := by
  rcases h with (h | ⟨o, h⟩) | h
  · exact .base (.tup h)
  · exact .fTuple h
  · obtain ⟨o, its, n, h1, h2, _⟩ := h
    exact .kTuple h1 h2
def spRight : Sp := fun vs H Q _ => ∃ a : Addr, vs = [.ref a] ∧ Src H a ∧ ∀ H', SameBut a H H' → Q (.bl true) H'
end
end Zx
namespace Zx
open PySem PySem.Spec PyProof.Rows L2 Bx
theorem cont_of {α : Type} {R X : α → Prop} {G : Prop} (first : (∀ a, R a → X a) → G) (rest : ∀ a, R a → X a) : G := first rest
theorem cont_of2 {α β : Type} {R X : α → β → Prop} {G : Prop} (first : (∀ a b, R a b → X a b) → G) (rest : ∀ a b, R a b → X a b) : G := first rest
theorem but_new {a : Addr} {H H3 : Hp} {p : Addr} {o : HO} (h : H p = none) (s : SameBut a (upd H p o) H3) : SameBut a H H3 := fun b x n e => s b x n (by rw [upd_ne (ne_of_none e h)]; exact e)
theorem but_at {a : Addr} {H H2 : Hp} {p : Addr} {o : HO} (h : H p = none) (s : SameBut a H H2) : SameBut a H (upd H2 p o) := fun b x n e => by
  rw [upd_ne (ne_of_none e h)]
  exact s b x n e
theorem src_same {a : Addr} {H1 H2 : Hp} (s : Src H1 a) (t : Same H1 H2) : Src H2 a := by
  obtain ⟨n, c, h⟩ := s
  exact ⟨n, c, t _ _ h⟩
theorem src_ne {a o : Addr} {H : Hp} (s : Src H a) (h : H o = none) : a ≠ o := by
  obtain ⟨n, c, z⟩ := s
  exact ne_of_none z h
theorem but_free {a o : Addr} {H H1 : Hp} (s : SameBut a H H1) (n : o ≠ a) (h : H1 o = none) : H o = none := by
  cases e : H o with
  | none => rfl
  | some x =>
    rw [s o x n e] at h
    cases h
theorem src_upd {a o : Addr} {H : Hp} {u : HO} (s : Src H a) (n : a ≠ o) : Src (upd H o u) a := by
  obtain ⟨x, c, h⟩ := s
  exact ⟨x, c, by rw [upd_ne n]; exact h⟩

end Zx
namespace Zx
open PySem PySem.Spec PyProof.Rows L2 Bx
theorem set_same {σ : L2.St} {i : Nat} {v : V} (h : σ[i]? = some (some v)) : σ.set i (some v) = σ := by
  obtain ⟨hi, e⟩ := List.getElem?_eq_some_iff.mp h
  rw [← e]
  exact List.set_getElem_self hi
/-- if c: name = e -/
theorem if_asg {c : Prop} [Decidable c] {te : TE} {i : Nat} {D : Ends} {σ : L2.St} {H : Hp} {old : V} (R : V → Hp → Prop) (hi : σ[i]? = some (some old))
    (h1 : c → ∀ Z : V → Hp → Prop, (∀ v H', R v H' → Z v H') → te σ H Z) (h2 : ¬ c → R old H) (rest : ∀ v H', R v H' → D.nx (σ.set i (some v)) H') : if c then tAsg te (gName i) D σ H else tNext D σ H := by
  split
  · rename_i h
    exact h1 h (fun v H' => D.nx (σ.set i (some v)) H') rest
  · rename_i h
    have := rest old H (h2 h)
    rw [set_same hi] at this
    exact this
/-- if c: name = e else: name = f -/
theorem if_asg2 {c : Prop} [Decidable c] {te tf : TE} {i : Nat} {D : Ends} {σ : L2.St} {H : Hp} (R : V → Hp → Prop)
    (h1 : c → ∀ Z : V → Hp → Prop, (∀ v H', R v H' → Z v H') → te σ H Z) (h2 : ¬ c → ∀ Z : V → Hp → Prop, (∀ v H', R v H' → Z v H') → tf σ H Z) (rest : ∀ v H', R v H' → D.nx (σ.set i (some v)) H') : if c then tAsg te (gName i) D σ H else tAsg tf (gName i) D σ H := by
  split
  · rename_i h
    exact h1 h (fun v H' => D.nx (σ.set i (some v)) H') rest
  · rename_i h
    exact h2 h (fun v H' => D.nx (σ.set i (some v)) H') rest
end Zx
/-! Own classes: methods that operators and built-ins call. -/
namespace Ow
open PySem PySem.Spec PyProof.Rows L2 Bx TL Dx Zx
/-- the class at C (or one above it) has the method m, a def that keeps sp -/
structure OwM (P : Program) (w : World) (K : PySem.W.Frag) (mg : Str → Option Value) (base : Heap) (CX : CXT) (C : Addr) (m : Str) (k : Nat) (ps : List Str) (sp : Sp) : Prop where
  ex : ∃ (f : Addr) (fd : FuncData), FnOk P w K mg base CX k f fd ps sp ∧ PySem.W.findIn K (.ref C) m = some (some (.ref f)) ∧ PySem.W.isFn K (.ref f) = true ∧ PySem.W.keepIn K (.ref f) = true ∧ Binds K fd ps []
section
variable {X : Cx} {pins : List (Addr × Obj)} {σ : L2.St} {H : Hp} {s : Shared} {C a dx : Addr} {fs : List (Str × V)}
/-- an instance as the library's operators see it -/
theorem inst_of (I : Inv X pins σ H s) (e : H a = some (.ins C dx fs)) : ∃ od, PySem.W.InstAt s.heap a (PySem.W.instObj C dx) C (some od) := by
  obtain ⟨mA, J, _⟩ := ins_get I.hok e
  obtain ⟨od, J2, _⟩ := J.look
  exact ⟨od, J2⟩
/-- a def is called, somewhere within -/
theorem call_at {CX : CXT} {k : Nat} {f : Addr} {fd : FuncData} {ps : List Str} {sp : Sp} {A1 : Around} {us : List Value} {vs : List V} {Q : VK} {E : XK} {E1 : Value → Shared → Prop} (sb : Sub X k A1) (ok : FnOk X.prog X.w X.K X.mg X.base CX k f fd ps sp) (b : Binds X.K fd ps [])
    (I : Inv X pins σ H s) (r : Vals vs us) (hsp : sp vs H Q E) (hx : ∀ e s', CX X.stack H s E e s' → E1 e s') : wpAny (model X.prog X.w) A1 (call (.ref f) us) (EP X pins σ Q) E1 s := by
  have z0 := I.env0
  have e0 : Env0 X.prog X.w X.K X.mg X.base A1 X.stack s H := ⟨by rw [sb.fr]; exact z0.frames, z0.mod, z0.bs, z0.bsz, z0.funs, z0.frf, z0.hok, z0.bare⟩
  have n1 := ok.len _ _ _ _ hsp
  have n2 : us.length = ps.length := by rw [← r.length]; exact n1
  have bb := b s us I.kIn (by rw [List.append_nil]; exact n2)
  rw [List.append_nil] at bb
  refine wpAny_call (codeAny_mono (ok.run A1 X.stack s H ⟨us, []⟩ us vs Q E sb.room e0 bb r hsp) fun res s' back => ?_)
  match res, back with
  | .error e, back => exact hx e s' back
  | .ok (.ret u), back => exact I.after back
  | .ok .next, back => exact back.elim
  | .ok .brk, back => exact back.elim
  | .ok .cont, back => exact back.elim
theorem sub_self {n : Nat} (hr : Room n X.A) : Sub X n X.A := ⟨hr, rfl⟩
/-- len(o) -/
def rLenO (C : Addr) (sp : Sp) : List V → Hp → VK → Prop := fun xs H Q => ∃ a dx fs, xs = [.ref a] ∧ H a = some (.ins C dx fs) ∧ sp [.ref a] H (fun v H' => ∃ n : Nat, v = .int (n : Int) ∧ n < 2 ^ 62 ∧ Q (.int (n : Int)) H') E0
theorem call_lenO {k : Nat} {ps : List Str} {sp : Sp} (c : OwM X.prog X.w X.K X.mg X.base CX0 C "__len__" k ps sp) (hr : Room (k + 1) X.A) : CallR X (.builtin "len") (rLenO C sp) := by
  intro pins s σ H xs us Q I r h
  obtain ⟨a, dx, fs, rfl, ha, hsp⟩ := h
  obtain ⟨f, fd, ok, hs, hf, _, hb⟩ := c.ex
  obtain ⟨od, J⟩ := inst_of I ha
  obtain ⟨m, hF⟩ := I.fr
  have r0 := r
  cases r with
  | cons r1 r2 =>
    cases r2
    cases r1
    refine PySem.W.len_K hF I.ok.mod.kin J hs hf ?_
    refine wpAny_mono (call_at ((sub_self hr).in1) ok hb I r0 hsp (fun e s' z => z.elim)) (fun u s' hu => ?_) (fun _ _ z => z)
    obtain ⟨v, H', I', rv, n, rfl, hn, hq⟩ := hu
    obtain ⟨t, rfl⟩ := rv
    exact ⟨⟨by omega, by omega⟩, .int n, H', I'.tok _, ⟨_, rfl⟩, hq⟩
/-- x in o, x not in o -/
def rInO (C : Addr) (sp : Sp) (neg : Bool) : V → V → Hp → VK → Prop := fun x y H Q => ∃ a dx fs, y = .ref a ∧ H a = some (.ins C dx fs) ∧ sp [.ref a, x] H (fun v H' => ∃ b : Bool, v = .bl b ∧ Q (.bl (b != neg)) H') E0
theorem truth_bl {M : Model} {A : Around} {E : Value → Shared → Prop} {s : Shared} {b : Bool} {Q : Bool → Shared → Prop} (h : Q b s) : wpAny M A (truthy (.bool b)) Q E s := by
  unfold truthy
  exact wpAny_pure h
theorem op_inO {k : Nat} {ps : List Str} {sp : Sp} (c : OwM X.prog X.w X.K X.mg X.base CX0 C "__contains__" k ps sp) (hr : Room k X.A) : OpR X (compareOp .In) (rInO C sp false) := by
  intro pins s σ H x y u v Q I rx ry h
  obtain ⟨a, dx, fs, rfl, ha, hsp⟩ := h
  obtain ⟨f, fd, ok, hs, hf, _, hb⟩ := c.ex
  obtain ⟨od, J⟩ := inst_of I ha
  obtain ⟨m, hF⟩ := I.fr
  cases ry
  refine PySem.W.in_K hF I.ok.mod.kin J hs hf ?_
  refine wpAny_mono (call_at (sub_self hr) ok hb I (vs := [.ref a, x]) (.cons rfl (.cons rx .nil)) hsp (fun e s' z => z.elim)) (fun u s' hu => ?_) (fun _ _ z => z)
  obtain ⟨v, H', I', rv, b, rfl, hq⟩ := hu
  cases rv
  refine truth_bl ⟨.bl b, H', I', rfl, ?_⟩
  rw [show (b != false) = b by cases b <;> rfl] at hq
  exact hq
theorem op_notInO {k : Nat} {ps : List Str} {sp : Sp} (c : OwM X.prog X.w X.K X.mg X.base CX0 C "__contains__" k ps sp) (hr : Room k X.A) : OpR X (compareOp .NotIn) (rInO C sp true) := by
  intro pins s σ H x y u v Q I rx ry h
  obtain ⟨a, dx, fs, rfl, ha, hsp⟩ := h
  obtain ⟨f, fd, ok, hs, hf, _, hb⟩ := c.ex
  obtain ⟨od, J⟩ := inst_of I ha
  obtain ⟨m, hF⟩ := I.fr
  cases ry
  refine PySem.W.notIn_K hF I.ok.mod.kin J hs hf ?_
  refine wpAny_mono (call_at (sub_self hr) ok hb I (vs := [.ref a, x]) (.cons rfl (.cons rx .nil)) hsp (fun e s' z => z.elim)) (fun u s' hu => ?_) (fun _ _ z => z)
  obtain ⟨v, H', I', rv, b, rfl, hq⟩ := hu
  cases rv
  refine truth_bl ⟨.bl (!b), H', I', rfl, ?_⟩
  rw [show (b != true) = !b by cases b <;> rfl] at hq
  exact hq
end
end Ow
/-! Own classes: o[i], o op x, loops over o. -/
namespace Ow
open PySem PySem.Spec PyProof.Rows L2 Bx TL Dx Zx ItX
/-! ### o[i] -/
section
variable {X : Cx} {C : Addr} {CXc : CXT} {k : Nat} {ps : List Str} {sp : Sp} {W : WX} {a b : Expr} {ta tb : TE} {pos : Pos}
def tSubO (C : Addr) (sp : Sp) (W : WX) (ta tb : TE) : TE := fun σ H Q => ta σ H fun x H1 => tb σ H1 fun y H2 => ∃ p dx fs, x = .ref p ∧ H2 p = some (.ins C dx fs) ∧ sp [.ref p, y] H2 Q (fun cls d H' => W cls d σ H')
theorem pe_subO (c : OwM X.prog X.w X.K X.mg X.base CXc C "__getitem__" k ps sp) (fi : ∀ f, PySem.W.findIn X.K (.ref C) "__getitem__" = some (some (.ref f)) → PySem.W.fnIn X.K f = true) (hr : Room (k + 1) X.A) (hx : ∀ σ, PassesAt CXc X σ (fun cls d H' => W cls d σ H')) (ha : PE X a ta) (hb : PE X b tb)
    (hs : ∀ v u, subscripted b true v u = runValue (.builtin "lifetime.subscript" ⟨[v, u], []⟩) := by intro _ _; rfl) : PE X (.Subscript a b pos) (tSubO C sp W ta tb) := by
  refine ⟨fun pins s σ H Q I h => ?_⟩
  refine Subscript_ (binT ha hb I (R := fun x y H2 => ∃ p dx fs, x = .ref p ∧ H2 p = some (.ins C dx fs) ∧ sp [.ref p, y] H2 Q (fun cls d H' => W cls d σ H')) h fun v u s2 x y H2 I2 rx ry q => ?_)
  obtain ⟨p, dx, fs, rfl, hp, hsp⟩ := q
  obtain ⟨f, fd, ok, hfi, hf, _, hbd⟩ := c.ex
  obtain ⟨od, J⟩ := inst_of I2 hp
  obtain ⟨m, hF⟩ := I2.fr
  cases rx
  refine PySem.W.sub_K hF I2.ok.mod.kin J hfi (fi f hfi) hf ?_ (hs _ _)
  exact call_at ((sub_self hr).in1) ok hbd I2 (vs := [.ref p, y]) (.cons rfl (.cons ry .nil)) hsp (fun e s' z => hx σ pins H2 s2 e s' I2 z)
end
/-! ### o op x, x of a built-in type -/
/-- what the written part says of an operator of C with a second operand of the built-in type T -/
structure BinF (K : PySem.W.Frag) (C : Addr) (op : Operator) (T : String) : Prop where
  first : PySem.W.selfFirst K C = true
  refl : ∃ rc, PySem.W.findIn K (.ref C) (dunderR op.info.2) = some rc ∧ (rc = none ∨ ∃ g : Addr, rc = some (.ref g))
  t1 : ∃ fo, PySem.W.findIn K (.type T) (PySem.dunder op.info.2) = some fo
  t2 : ∃ ro, PySem.W.findIn K (.type T) (dunderR op.info.2) = some ro
  sub : PySem.W.subIn K (.type T) (.ref C) = some false
/-- the type of a value, looked at -/
def LkT (M : Model) (h : Heap) (v : Value) (T : String) : Prop := PySem.W.Looks M h (typeOf v) (.type T)
theorem bin_looks {prog : Program} {w : World} {A : Around} {E : Value → Shared → Prop} {s : Shared} {K : PySem.W.Frag} {x C f : Addr} {ox : Obj} {od : Option Obj} {T : String} {op : Operator} {b : Value} {Q : Value → Shared → Prop}
    (X : K.In s.heap) (I : PySem.W.InstAt s.heap x ox C od) (B : BinF K C op T) (hb : LkT (model prog w) s.heap b T) (hs : PySem.W.findIn K (.ref C) (PySem.dunder op.info.2) = some (some (.ref f))) (hf : PySem.W.isFn K (.ref f) = true)
    (h : wpAny (model prog w) A (call (.ref f) [.ref x, b]) (PySem.W.CmpBack Q) E s) : wpAny (model prog w) A (binaryOp op (.ref x) b) Q E s := by
  obtain ⟨hc, ⟨rc, hrc, hrp⟩, ⟨fo, h1⟩, ⟨ro, h2⟩, hsub⟩ := B
  obtain ⟨cd, rest, hcd, hm⟩ := PySem.W.ksp_first hc
  cases hi : op.info with
  | mk sym nm =>
    rw [hi] at hs hrc h1 h2
    dsimp only at hs hrc h1 h2
    have called := PySem.W.ksp_try X I hs hf h
    have d1 : PySem.W.Looks (model prog w) s.heap (typeOf (.ref x)) (.ref C) := I.type
    have d3 : PySem.W.Looks (model prog w) s.heap (fillsNumberSlot (.ref C) nm) true := PySem.W.fills_K X hcd hm hs
    have d4 := PySem.W.ksp_fillsT (M := model prog w) X h1 h2
    have d5 : PySem.W.Looks (model prog w) s.heap (isSubtype (.type T) (.ref C)) false := PySem.W.looks_subIn X hsub
    have d6 : PySem.W.Looks (model prog w) s.heap (numberSlotInPython (.ref C) nm) true := PySem.W.ksp_inPy X hs hrc hrp
    have d7 : PySem.W.Looks (model prog w) s.heap (numberSlotInPython (.type T) nm) false := PySem.W.Looks.of_pure rfl
    have d8 : PySem.W.Looks (model prog w) s.heap (typeLookup (.type T) (dunderR nm)) ro := PySem.W.looks_findIn X h2
    unfold LkT at hb
    clear X I hs hf h
    obtain ⟨hp, g, dd, tt, os⟩ := s
    generalize ((fo.isSome && !isSeqSlot fo) || (ro.isSome && !isSeqSlot ro)) = right at d4
    have other : (Value.ref C == Value.type T) = false := by
      cases z : (Value.ref C == Value.type T) with
      | false => rfl
      | true => cases beq_iff_eq.mp z
    simp only [binaryOp, hi]
    refine wpAny_holding (wpAny_bind ?_)
    unfold binaryOp1
    refine wpAny_bind (d1.at (wpAny_bind ?_))
    refine hb.at (wpAny_bind (d3.at ?_))
    simp only [other, Bool.false_eq_true, if_false]
    cases right
    · ksp_lk
      refine wpAny_mono called (fun r s' z => ?_) fun _ _ e => e
      obtain ⟨v, rfl, z⟩ := z
      ksp_lk
      exact z
    · ksp_lk
      refine wpAny_mono called (fun r s' z => ?_) fun _ _ e => e
      obtain ⟨v, rfl, z⟩ := z
      ksp_lk
      exact z
end Ow
namespace Ow
open PySem PySem.Spec PyProof.Rows L2 Bx TL Dx Zx ItX
section
variable {X : Cx} {pins : List (Addr × Obj)} {σ : L2.St} {H : Hp} {s : Shared}
/-- the built-in types of second operands -/
inductive TyO (K : PySem.W.Frag) (H : Hp) : V → String → Prop
  | int (i : Int) : TyO K H (.int i) "int"
  | str (z : Str) : TyO K H (.str z) "str"
  | tup {p : Addr} {xs : List V} (h : SqT K H p xs) : TyO K H (.ref p) "tuple"
theorem lk_of {y : V} {v : Value} {T : String} (I : Inv X pins σ H s) (r : RelV y v) (t : TyO X.K H y T) : LkT (model X.prog X.w) s.heap v T := by
  cases t with
  | int i =>
    obtain ⟨u, rfl⟩ := r
    exact PySem.W.Looks.of_pure rfl
  | str z =>
    obtain ⟨u, rfl⟩ := r
    exact PySem.W.Looks.of_pure rfl
  | tup h =>
    cases r
    obtain ⟨its, rv, ht, _⟩ := I.tuple h
    obtain ⟨o, ho, hc, _⟩ := ht
    unfold LkT
    rw [← hc]
    exact (PySem.W.Looks.ld ho).andThen .now
theorem back_ep {Q : VK} {u : Value} {s' : Shared} (h : EP X pins σ Q u s') : PySem.W.CmpBack (EP X pins σ Q) u s' := by
  obtain ⟨v, H', I', r, q⟩ := h
  have h2 : EP X pins σ Q u s' := ⟨v, H', I', r, q⟩
  cases v with
  | non => cases r; exact h2
  | bl b => cases r; exact h2
  | int i => obtain ⟨t, rfl⟩ := r; exact h2
  | str z => obtain ⟨t, rfl⟩ := r; exact h2
  | byt b => obtain ⟨t, rfl⟩ := r; exact h2
  | flt b => obtain ⟨t, rfl⟩ := r; exact h2
  | ref a => cases r; exact h2
  | ty n => cases r; exact h2
end
section
variable {X : Cx} {C : Addr} {CXc : CXT} {k : Nat} {ps : List Str} {sp : Sp} {W : WX} {a b : Expr} {ta tb : TE} {pos : Pos} {op : Operator} {T m : String}
def tBinO (K : PySem.W.Frag) (C : Addr) (T : String) (sp : Sp) (W : WX) (ta tb : TE) : TE := fun σ H Q => ta σ H fun x H1 => tb σ H1 fun y H2 => ∃ p dx fs, x = .ref p ∧ H2 p = some (.ins C dx fs) ∧ TyO K H2 y T ∧ sp [.ref p, y] H2 Q (fun cls d H' => W cls d σ H')
theorem pe_binO (c : OwM X.prog X.w X.K X.mg X.base CXc C (PySem.dunder op.info.2) k ps sp) (B : BinF X.K C op T) (hr : Room k X.A) (hx : ∀ σ, PassesAt CXc X σ (fun cls d H' => W cls d σ H')) (ha : PE X a ta) (hb : PE X b tb) : PE X (.BinOp a op b pos) (tBinO X.K C T sp W ta tb) := by
  refine ⟨fun pins s σ H Q I h => ?_⟩
  refine wpAny_BinOp (binT ha hb I (R := fun x y H2 => ∃ p dx fs, x = .ref p ∧ H2 p = some (.ins C dx fs) ∧ TyO X.K H2 y T ∧ sp [.ref p, y] H2 Q (fun cls d H' => W cls d σ H')) h fun v u s2 x y H2 I2 rx ry q => ?_)
  obtain ⟨p, dx, fs, rfl, hp, ht, hsp⟩ := q
  obtain ⟨f, fd, ok, hfi, hf, _, hbd⟩ := c.ex
  obtain ⟨od, J⟩ := inst_of I2 hp
  cases rx
  refine bin_looks I2.kIn J B (lk_of I2 ry ht) hfi hf ?_
  refine wpAny_mono (call_at (sub_self hr) ok hbd I2 (vs := [.ref p, y]) (.cons rfl (.cons ry .nil)) hsp (fun e s' z => hx σ pins H2 s2 e s' I2 z)) (fun u s' z => back_ep z) fun _ _ z => z
end
/-! ### iter(t), t a tuple -/
def TiO (t it : Addr) : HO := .ext fun h => h.IsTupleIter it t 0
theorem tiO_ok {P : Program} {w : World} {H : Hp} {h : Heap} {t it : Addr} (e : h.IsTupleIter it t 0) : ObjOk P w H h it (TiO t it) := by
  obtain ⟨o, ho, hc, hd⟩ := id e
  exact ⟨e, ⟨o, ho⟩, fun h1 h2 z k => z.at fun o e => k _ e⟩
def rIterT (K : PySem.W.Frag) (n : Nat) : List V → Hp → VK → Prop := fun xs H Q => ∃ (t : Addr) (zs : List V), xs = [.ref t] ∧ SqT K H t zs ∧ ∀ it, H it = none → n ≤ it → Q (.ref it) (upd H it (TiO t it))
theorem call_iterT {X : Cx} : CallR X (.builtin "iter") (rIterT X.K X.s_0.heap.objs.size) := by
  intro pins s σ H xs us Q I r h
  obtain ⟨t, zs, rfl, hq, q⟩ := h
  cases r with
  | cons r1 r2 =>
    cases r2
    cases r1
    obtain ⟨its, rv, pl, hz⟩ := I.tuple hq
    refine Calls.call_function_entry (by decide +kernel) (by decide +kernel) PySem.W.kdk_entry_iter (PySem.W.kdk_args_iter _) ?_
    unfold Builtin.«iter»
    refine wpAny_bind (m := someArgs "iter" 1 2 _) (wpAny_of_eq (a := [Value.ref t]) (by first | rfl | kernel_rfl!) ?_)
    show wpAny _ _ (pyIter (.ref t) >>= _) _ _ _
    refine wpAny_bind (wpAny_pyIter_tuple pl ?_)
    refine wpAny_pure ⟨_, rfl, .ref s.heap.objs.size, _, I.laid (t' := s.toks) (fun b u e => Heap.get?_push_of_some _ e) (Nat.le_refl _) (tiO_ok ⟨_, Heap.get?_push_size _ rfl, rfl, rfl⟩), rfl, q _ (I.hok.fresh (Nat.le_refl _)) I.sz⟩
end Ow
namespace Ow
open PySem PySem.Spec PyProof.Rows L2 Bx TL Dx Zx ItX
/-- a def of the text, called at a state that one knows -/
theorem run_here {CX : CXT} {P : Program} {w : World} {K : PySem.W.Frag} {mg : Str → Option Value} {base : Heap} {k : Nat} {f : Addr} {nm qn : Str} {params : Arguments} {body : List Stmt} {scope : Scope} {dV kV doc pm cdv ct oc : Value} {an od : Option Addr} {osl : Array (Option Value)} {N ps : List Str}
    {A : Around} {outer : List Env} {s : Shared} {H : Hp} {args : Args} {us : List Value} {vs : List V} {Q : VK} {E : XK} (lk : K.lookup f = some ⟨oc, od, .func (PySem.W.fnOf nm qn params body scope dV kV doc pm an cdv ct), osl⟩) (cd : PySem.W.codeIn K cdv qn = true) (S : FnScope N ps scope) (room : Room (k + 1) A)
    (e0 : Env0 P w K mg base A outer s H) (hb : BindsTo s (PySem.W.fnOf nm qn params body scope dV kV doc pm an cdv ct) args (ps.zip us)) (rel : Vals vs us) (len : vs.length = ps.length)
    (reads : Room k (A.deeper (envOfC qn scope s.heap.objs.size f cdv)) → ∃ t, PSs (cxOf CX P w K mg base N qn scope f cdv A outer s H E) body t ∧ t { nx := fun _ H' => Q .non H', rt := Q } (start N vs) H) :
    codeAny (model P w) A (.call (.ref f) args) (CR CX outer P w H s Q E) s := by
  have kx : K.In s.heap := e0.mod.kin.keeps (fun p q z => (e0.bs p q z).1)
  have open_ : s.heap.NoLimit := e0.mod.nolimit.keeps (fun p q z => (e0.bs p q z).1)
  have kinds : ∀ y ∈ ps.zip us, scope.names.lookup y.1 = some .local ∨ (scope.names.lookup y.1 = some .cell ∧ ((cellsFrom (s.heap.objs.size + 1) scope.names []).lookup y.1).isSome = true) := by
    rintro ⟨one, val⟩ hy
    exact (S.par one (List.of_mem_zip hy).1).imp id (fun q => ⟨q, PySem.W.cellsFrom_some _ _ _ (.inl q)⟩)
  refine codeAny_call_function room.depth (kx _ _ lk) rfl S.co S.gen rfl (PySem.W.codeRec_of kx cd) ?_
  refine hb _ _ _ _ ?_
  refine wpAny_newFunctionEnv_cells S.kind kinds (fun env he s1 x => ?_)
  cases he
  refine ⟨open_.keeps x.toInCall.keep, codeAny_func ?_⟩
  obtain ⟨t, pt, ht⟩ := reads (room.deeper _)
  have J0 := inv_start (CX := CX) (E := E) S room.hd e0 len rel x
  refine wpAny_mono (pt.run [] s1 (start N vs) H _ J0 ht) ?_ (fun e s' z => z)
  intro fl s' back
  match fl, back with
  | .ret u, ⟨v, σ', H', J, rv, q⟩ => exact ⟨v, H', J.os, J.bare, J.base, J.hok, rv, q⟩
  | .next, ⟨σ', H', J, q⟩ => exact ⟨V.non, H', J.os, J.bare, J.base, J.hok, rfl, q⟩
  | .brk, ⟨_, _, _, q⟩ => exact q.elim
  | .cont, ⟨_, _, _, q⟩ => exact q.elim
/-! ### for x in o, where def __iter__(self): return iter(self.f) -/
structure ItM (P : Program) (w : World) (K : PySem.W.Frag) (mg : Str → Option Value) (base : Heap) (C : Addr) (f : Str) (k : Nat) : Prop where
  ex : ∃ fi : Addr, PySem.W.findIn K (.ref C) "__iter__" = some (some (.ref fi)) ∧ PySem.W.isFn K (.ref fi) = true ∧
    ∀ (A : Around) (outer : List Env) (s : Shared) (H : Hp) (E : XK) (p dx t : Addr) (fs : List (Str × V)) (zs : List V), Room k A → Env0 P w K mg base A outer s H → H p = some (.ins C dx fs) → fs.lookup f = some (.ref t) → SqT K H t zs →
      codeAny (model P w) A (.call (.ref fi) ⟨[.ref p], []⟩) (CR CX0 outer P w H s (fun v H' => ∃ it, v = .ref it ∧ H it = none ∧ s.heap.objs.size ≤ it ∧ H' = upd H it (TiO t it)) E) s
section
variable {X : Cx} {C : Addr}
def tIterO (K : PySem.W.Frag) (C : Addr) (f : Str) (te : TE) : TI := fun σ H R => te σ H fun x H1 => ∃ p dx fs t zs, x = .ref p ∧ H1 p = some (.ins C dx fs) ∧ fs.lookup f = some (.ref t) ∧ SqT K H1 t zs ∧ R (Itt K t) H1
theorem pi_iterO {tg l : Expr} {te : TE} {k : Nat} {f : Str} (c : ItM X.prog X.w X.K X.mg X.base C f k) (hr : Room k X.A) (he : PE X l te) : PI X tg l (tIterO X.K C f te) := by
  refine ⟨fun pins s σ H R I h => ?_⟩
  refine thn (he.run pins s σ H _ I h) fun v s1 ⟨x, H1, I1, r1, q1⟩ => ?_
  obtain ⟨p, dx, fs, t, zs, rfl, hp, hl, hz, hR⟩ := q1
  obtain ⟨fi, hfi, hf, go⟩ := c.ex
  obtain ⟨od, J⟩ := inst_of I1 hp
  obtain ⟨m, hF⟩ := I1.fr
  cases r1
  refine PySem.W.owit_iter hF I1.ok.mod.kin J hfi hf ?_
  refine wpAny_call (codeAny_mono (go X.A X.stack s1 H1 E0 p dx t fs zs hr I1.env0 hp hl hz) fun res s' back => ?_)
  match res, back with
  | .error e, back => exact back.elim
  | .ok .next, back => exact back.elim
  | .ok .brk, back => exact back.elim
  | .ok .cont, back => exact back.elim
  | .ok (.ret u), back =>
    obtain ⟨v, H2, I2, rv, it, rfl, n1, hy, rfl⟩ := I1.after back
    cases rv
    have e2 : upd H1 it (TiO t it) it = some (TiO t it) := upd_same
    have hit : s'.heap.IsTupleIter it t 0 := by
      have : ObjOk X.prog X.w (upd H1 it (TiO t it)) s'.heap it (.ext fun h => h.IsTupleIter it t 0) := I2.hok it _ e2
      exact this.1
    show wpAny _ _ (specialOf (.ref it) "__next__") _ _ _
    refine wpAny_specialOf (name := Str.ofString "__next__") hit.typeIs PySem.F.slot_tuple_iterator_next.lookup ?_
    have hn : X.s_0.heap.objs.size ≤ it := Nat.le_trans I1.sz hy
    have I3 := inv_drop I2 e2
    have fp := inv_fp I2 e2 hn
    rw [dropH_upd n1] at I3 fp
    refine ⟨it, [it], _, _, H1, rfl, I3, turn_tuple t it, hit, fun b hb => ?_, hR⟩
    rw [List.mem_singleton.mp hb]
    exact fp
end
end Ow
/-! Own classes: o + p of one class, k * o, -o; dict(t) of a tuple of pairs. -/
namespace Ow
open PySem PySem.Spec PyProof.Rows L2 Bx TL Dx Zx ItX
theorem bin_same {prog : Program} {w : World} {A : Around} {E : Value → Shared → Prop} {s : Shared} {K : PySem.W.Frag} {x y C f : Addr} {ox oy : Obj} {od oe : Option Obj} {op : Operator} {Q : Value → Shared → Prop}
    (X : K.In s.heap) (I : PySem.W.InstAt s.heap x ox C od) (J : PySem.W.InstAt s.heap y oy C oe) (first : PySem.W.selfFirst K C = true) (hs : PySem.W.findIn K (.ref C) (PySem.dunder op.info.2) = some (some (.ref f))) (hf : PySem.W.isFn K (.ref f) = true)
    (h : wpAny (model prog w) A (call (.ref f) [.ref x, .ref y]) (PySem.W.CmpBack Q) E s) : wpAny (model prog w) A (binaryOp op (.ref x) (.ref y)) Q E s := by
  obtain ⟨cd, rest, hcd, hm⟩ := PySem.W.ksp_first first
  cases hi : op.info with
  | mk sym nm =>
    rw [hi] at hs
    dsimp only at hs
    have called := PySem.W.ksp_try X I hs hf h
    have d1 : PySem.W.Looks (model prog w) s.heap (typeOf (.ref x)) (.ref C) := I.type
    have d2 : PySem.W.Looks (model prog w) s.heap (typeOf (.ref y)) (.ref C) := J.type
    have d3 : PySem.W.Looks (model prog w) s.heap (fillsNumberSlot (.ref C) nm) true := PySem.W.fills_K X hcd hm hs
    clear X I J hs hf h
    obtain ⟨hp, g, dd, tt, os⟩ := s
    have same : (Value.ref C == Value.ref C) = true := beq_self_eq_true _
    simp only [binaryOp, hi]
    refine wpAny_holding (wpAny_bind ?_)
    unfold binaryOp1
    refine wpAny_bind (d1.at (wpAny_bind ?_))
    refine d2.at (wpAny_bind (d3.at ?_))
    simp only [same, if_true]
    ksp_lk
    refine wpAny_mono called (fun r s' z => ?_) fun _ _ e => e
    obtain ⟨v, rfl, z⟩ := z
    ksp_lk
    exact z
section
variable {X : Cx} {C : Addr} {k : Nat} {ps : List Str} {sp : Sp} {op : Operator}
def rBinSame (C : Addr) (sp : Sp) : V → V → Hp → VK → Prop := fun x y H Q => ∃ p q dx dy fs gs, x = .ref p ∧ y = .ref q ∧ H p = some (.ins C dx fs) ∧ H q = some (.ins C dy gs) ∧ sp [.ref p, .ref q] H Q E0
theorem op_same (c : OwM X.prog X.w X.K X.mg X.base CX0 C (PySem.dunder op.info.2) k ps sp) (first : PySem.W.selfFirst X.K C = true) (hr : Room k X.A) : OpR X (binaryOp op) (rBinSame C sp) := by
  intro pins s σ H x y u v Q I rx ry h
  obtain ⟨p, q, dx, dy, fs, gs, rfl, rfl, hp, hq, hsp⟩ := h
  obtain ⟨f, fd, ok, hs, hf, _, hb⟩ := c.ex
  obtain ⟨od, J⟩ := inst_of I hp
  obtain ⟨oe, J2⟩ := inst_of I hq
  cases rx
  cases ry
  refine bin_same I.kIn J J2 first hs hf ?_
  refine wpAny_mono (call_at (sub_self hr) ok hb I (vs := [.ref p, .ref q]) (.cons rfl (.cons rfl .nil)) hsp (fun e s' z => z.elim)) (fun u s' z => back_ep z) fun _ _ z => z
/-- o op x -/
def rBinT (K : PySem.W.Frag) (C : Addr) (T : String) (sp : Sp) : V → V → Hp → VK → Prop := fun x y H Q => ∃ p dx fs, x = .ref p ∧ H p = some (.ins C dx fs) ∧ TyO K H y T ∧ sp [.ref p, y] H Q E0
theorem op_ownT {T : String} (c : OwM X.prog X.w X.K X.mg X.base CX0 C (PySem.dunder op.info.2) k ps sp) (B : BinF X.K C op T) (hr : Room k X.A) : OpR X (binaryOp op) (rBinT X.K C T sp) := by
  intro pins s σ H x y u v Q I rx ry h
  obtain ⟨p, dx, fs, rfl, hp, ht, hsp⟩ := h
  obtain ⟨f, fd, ok, hs, hf, _, hb⟩ := c.ex
  obtain ⟨od, J⟩ := inst_of I hp
  cases rx
  refine bin_looks I.kIn J B (lk_of I ry ht) hs hf ?_
  refine wpAny_mono (call_at (sub_self hr) ok hb I (vs := [.ref p, y]) (.cons rfl (.cons ry .nil)) hsp (fun e s' z => z.elim)) (fun u s' z => back_ep z) fun _ _ z => z
/-- -o -/
theorem un_negO (c : OwM X.prog X.w X.K X.mg X.base CX0 C "__neg__" k ps sp) (hr : Room k X.A) : UnR X (unaryOp .USub) (fun x H Q => ∃ p dx fs, x = .ref p ∧ H p = some (.ins C dx fs) ∧ sp [.ref p] H Q E0) := by
  intro pins s σ H x u Q I rx h
  obtain ⟨p, dx, fs, rfl, hp, hsp⟩ := h
  obtain ⟨f, fd, ok, hs, hf, _, hb⟩ := c.ex
  obtain ⟨od, J⟩ := inst_of I hp
  obtain ⟨m, hF⟩ := I.fr
  cases rx
  refine PySem.W.ksp_neg hF I.ok.mod.kin J hs hf ?_
  exact call_at (sub_self hr) ok hb I (vs := [.ref p]) (.cons rfl .nil) hsp (fun e s' z => z.elim)
/-- o[i] -/
theorem pe_subO0 {a b : Expr} {ta tb : TE} {pos : Pos} (c : OwM X.prog X.w X.K X.mg X.base CX0 C "__getitem__" k ps sp) (fi : ∀ f, PySem.W.findIn X.K (.ref C) "__getitem__" = some (some (.ref f)) → PySem.W.fnIn X.K f = true) (hr : Room (k + 1) X.A) (ha : PE X a ta) (hb : PE X b tb)
    (hs : ∀ v u, subscripted b true v u = runValue (.builtin "lifetime.subscript" ⟨[v, u], []⟩) := by intro _ _; rfl) : PE X (.Subscript a b pos) (tSubO C sp (fun _ _ _ _ => False) ta tb) :=
  pe_subO c fi hr (fun _ _ _ _ _ _ _ h => h.elim) ha hb hs
end
end Ow
/-! tuple(xs) without a dict of its own; dict(t) of such a tuple of pairs; k * o. -/
namespace Ow
open PySem PySem.Spec PyProof.Rows L2 Bx TL Dx Zx ItX
/-- a tuple without a dict of its own -/
def PlT (H : Hp) (a : Addr) (xs : List V) : Prop := ∃ o, H a = some (.frz o (.tup xs)) ∧ o.dict = none
theorem PlT.sq {K : PySem.W.Frag} {H : Hp} {a : Addr} {xs : List V} (h : PlT H a xs) : SqT K H a xs := .inl (.inr ⟨_, h.choose_spec.1⟩)
theorem PlT.same {H H' : Hp} {a : Addr} {xs : List V} (s : Same H H') (h : PlT H a xs) : PlT H' a xs := ⟨_, s _ _ h.choose_spec.1, h.choose_spec.2⟩
section
variable {X : Cx}
def rTupF (K : PySem.W.Frag) : List V → Hp → VK → Prop := fun xs H Q => ∃ p ys, xs = [.ref p] ∧ SqL K H p ys ∧ ∀ l o, H l = none → o.dict = none → Q (.ref l) (upd H l (.frz o (.tup ys)))
theorem call_tupleF : CallR X (.type "tuple") (rTupF X.K) := by
  intro pins s σ H xs us Q I r h
  obtain ⟨p, ys, rfl, hq, q⟩ := h
  obtain ⟨u, rfl, rx⟩ := vals1 r
  cases rx
  obtain ⟨its, r', pl, hz⟩ := I.list hq
  have hlen := r'.length
  refine call_tuple_list pl.isList (fun h' kp => ?_) (by simp only [List.size_toArray] <;> omega)
  have I1 : Inv X pins σ H { s with heap := h' } := I.kept (t' := s.toks) kp
  let o : Obj := { cls := .type "tuple", data := .seq its.toArray }
  have I2 : Inv X pins σ (upd H h'.objs.size (.frz o (.tup ys))) { s with heap := h'.push o } :=
    I1.laid (t' := s.toks) (fun b o e => Heap.get?_push_of_some _ e) (Nat.le_refl _) (show ObjOk X.prog X.w _ _ _ (.frz o (.tup ys)) from ⟨Heap.get?_push_size _ rfl, hz, its, r', IsTup.new _ _⟩)
  exact ⟨.ref h'.objs.size, _, I2, rfl, q _ o (I1.hok.fresh (Nat.le_refl _)) rfl⟩
def rDictT (K : PySem.W.Frag) : List V → Hp → VK → Prop := fun xs H Q => ∃ (a : Addr) (ps : List Addr) (kvs : List (Key × V)), xs = [.ref a] ∧ PlT H a (ps.map V.ref) ∧ Paired (fun p kv => SqT K H p [kV kv.1, kv.2]) ps kvs ∧
    ∀ p, H p = none → Q (.ref p) (upd H p (.dK (mergeK [] kvs)))
theorem call_dictT (hcalm : X.calm = true) : CallR X (.type "dict") (rDictT X.K) := by
  intro pins s σ H xs us Q I r q
  obtain ⟨a, ps, kvs, rfl, ⟨o, ha, hod⟩, hp, q⟩ := q
  obtain ⟨u, rfl, rx⟩ := vals1 r
  cases rx
  obtain ⟨hg, hz, its, rv, o2, ho2, hc, n, hdat⟩ : ObjOk X.prog X.w H s.heap a (.frz o (.tup (ps.map V.ref))) := I.hok a _ ha
  rw [hg] at ho2
  obtain rfl := Option.some.inj ho2
  have ei := refs_at rv
  subst ei
  obtain ⟨prs, rel, hl, hpr⟩ := pairs_of I hp
  rw [List.length_map] at hz
  have at_ : ∀ (j : Nat) (q : Key × Value), prs[j]? = some q → ∃ u : Value, IsTup s.heap (ps.getD j 0) #[u, q.2] ∧ ps[j]? = some (ps.getD j 0) ∧ keyIs q.1 u = true := fun j q e => by
    obtain ⟨b, u, e1, e2, e3⟩ := hpr j q e
    have e4 : ps.getD j 0 = b := by rw [List.getD_eq_getElem?_getD, e1]; rfl
    rw [e4]
    exact ⟨u, e2, e1, e3⟩
  classical
  let key : Nat → Value := fun j => match prs[j]? with
    | some q => (if h : ∃ u : Value, IsTup s.heap (ps.getD j 0) #[u, q.2] ∧ keyIs q.1 u = true then h.choose else .none)
    | none => .none
  have keyAt : ∀ (j : Nat) (q : Key × Value), prs[j]? = some q → IsTup s.heap (ps.getD j 0) #[key j, q.2] ∧ keyIs q.1 (key j) = true := fun j q e => by
    obtain ⟨u, h1, _, h3⟩ := at_ j q e
    have hh : ∃ u : Value, IsTup s.heap (ps.getD j 0) #[u, q.2] ∧ keyIs q.1 u = true := ⟨u, h1, h3⟩
    have ek : key j = hh.choose := by
      show (match prs[j]? with | some q => _ | none => _) = _
      rw [e]
      exact dif_pos hh
    rw [ek]
    exact hh.choose_spec
  let vps : List (Value × Value) := (List.range prs.length).map fun j => (key j, match prs[j]? with | some q => q.2 | none => .none)
  have vlen : vps.length = prs.length := by simp [vps]
  have vat : ∀ j k v, vps[j]? = some (k, v) → ∃ q : Key × Value, prs[j]? = some q ∧ k = key j ∧ v = q.2 := fun j k v e => by
    have hj : j < prs.length := by
      have := (List.getElem?_eq_some_iff.mp e).1
      omega
    have e1 : prs[j]? = some prs[j] := List.getElem?_eq_getElem hj
    refine ⟨prs[j], e1, ?_⟩
    have e2 : vps[j]? = some (key j, prs[j].2) := by
      simp only [vps, List.getElem?_map, List.getElem?_range hj, Option.map_some, e1]
    rw [e2] at e
    cases e
    exact ⟨rfl, rfl⟩
  have P := PySem.PairArg.tuple (prog := X.prog) (w := X.w) a (ps.map Value.ref).toArray (fun j => ps.getD j 0) vps
  refine PySem.call_dict_pairs (knd := mixKind X.prog X.w) (kvs := prs) P (I.ok.hd hcalm) ⟨⟨o, n, hg, hc, hod, hdat⟩, by rw [List.size_toArray, List.length_map, vlen, hl], fun j k v e => ?_⟩ ⟨vlen.symm, fun i k v e => ?_⟩ (by rw [vlen, hl]; exact hz) fun h' tk hd' kp => ?_
  · obtain ⟨q, e1, rfl, rfl⟩ := vat j k v e
    obtain ⟨u, _, e3, _⟩ := at_ j q e1
    refine ⟨?_, .inl (keyAt j q e1).1⟩
    rw [List.getElem?_toArray, List.getElem?_map, e3]
    rfl
  · obtain ⟨q, e1, rfl, rfl⟩ := vat i k v e
    exact ⟨q.1, e1, (keyAt i q e1).2⟩
  · have hm : (s.heap.objs.size == sysModules) = false := beq_eq_false_iff_ne.mpr (Nat.ne_of_gt I.big)
    have hlen : (mergeK [] kvs).length ≤ sizeLine := by
      refine Nat.le_trans (length_mergeK kvs []) ?_
      rw [List.length_nil, Nat.zero_add, rel.length, hl]
      exact hz
    exact ⟨.ref s.heap.objs.size, upd H s.heap.objs.size (.dK (mergeK [] kvs)), I.laid (t' := tk) (fun b o e => kp b o (fun h => nomatch h) e) (Nat.le_refl _) (show ObjOk X.prog X.w _ _ _ (.dK (mergeK [] kvs)) from ⟨hlen, hm, merged [] prs, KV.merge rel .nil, hd'⟩), rfl, q _ (I.hok.fresh (Nat.le_refl _))⟩
end
/-! ### k * o -/
theorem int_mul_ins (a : Int) (t : Tok) (l C dx : Addr) :
    Meets (Builtin.«int.__mul__» ⟨[.int a t, .ref l], []⟩) (fun _ R s => s.heap.get? l = some (PySem.W.instObj C dx) ∧ R (.ok (.ret Value.notImplemented)) s) :=
  .of_wp fun prog w A R s h => by obtain ⟨hp, g, d, tk, os⟩ := s; obtain ⟨hl, h⟩ := h; wp_walk; exact ⟨_, rfl, h⟩
theorem int_declines {prog : Program} {w : World} {A : Around} {E : Value → Shared → Prop} {s : Shared} {k : Int} {t : Tok} {x C dx : Addr} {Q : Value → Shared → Prop} (hg : s.heap.get? x = some (PySem.W.instObj C dx)) (q : Q .notImplemented s) :
    wpAny (model prog w) A (call (.builtin "int.__mul__") [.int k t, .ref x]) Q E s :=
  call_meets F.slot_int_mul (typeIs_int s k t) F.entry_int_mul (F.args_int_mul_2 _ _) (int_mul_ins k t x C dx) ⟨hg, q⟩
theorem try_declines {prog : Program} {w : World} {A : Around} {E : Value → Shared → Prop} {s : Shared} {k : Int} {t : Tok} {x C dx : Addr} {Q : Option Value → Shared → Prop} (hg : s.heap.get? x = some (PySem.W.instObj C dx)) (q : Q none s) :
    wpAny (model prog w) A (tryMethod (.int k t) (dunder "mul") (.ref x)) Q E s := by
  refine wpAny_tryMethod_declines (T := "int") (name := dunder "mul") (id := "int.__mul__") ?_ ?_ ?_
  · exact typeIs_int s k t
  · exact F.slot_int_mul
  exact int_declines hg ⟨rfl, q⟩
theorem bin_right {prog : Program} {w : World} {A : Around} {E : Value → Shared → Prop} {s : Shared} {K : PySem.W.Frag} {x C f dx : Addr} {od : Option Obj} {k : Int} {t : Tok} {Q : Value → Shared → Prop}
    (X : K.In s.heap) (I : PySem.W.InstAt s.heap x (PySem.W.instObj C dx) C od) (first : PySem.W.selfFirst K C = true) (hl : PySem.W.findIn K (.ref C) "__mul__" = some (some (.ref f))) (hs : ∃ g : Addr, PySem.W.findIn K (.ref C) "__rmul__" = some (some (.ref g)) ∧ PySem.W.isFn K (.ref g) = true ∧
      wpAny (model prog w) A (call (.ref g) [.ref x, .int k t]) (PySem.W.CmpBack Q) E s)
    (hsub : PySem.W.subIn K (.ref C) (.type "int") = some false) : wpAny (model prog w) A (binaryOp .Mult (.int k t) (.ref x)) Q E s := by
  obtain ⟨g, hr, hf, h⟩ := hs
  obtain ⟨cd, rest, hcd, hm⟩ := PySem.W.ksp_first first
  have hg : s.heap.get? x = some (PySem.W.instObj C dx) := by
    exact I.at_
  have called := PySem.W.ksp_try X I hr hf h
  have d1 : PySem.W.Looks (model prog w) s.heap (typeOf (.ref x)) (.ref C) := I.type
  have d3 : PySem.W.Looks (model prog w) s.heap (fillsNumberSlot (.ref C) "mul") true := PySem.W.fills_K X hcd hm hl
  have d5 : PySem.W.Looks (model prog w) s.heap (isSubtype (.ref C) (.type "int")) false := PySem.W.looks_subIn X hsub
  clear X I hl hr hf h
  simp only [binaryOp]
  refine wpAny_holding (wpAny_bind ?_)
  show wpAny _ _ (binaryOp1 "mul" _ _) _ _ _
  simp only [binaryOp1]
  refine wpAny_bind (wpAny_typeOf (typeIs_int s k t) (wpAny_bind (d1.at (wpAny_bind (wpAny_of_eq F.fills_int_mul ?_)))))
  have hne : (Value.type "int" == Value.ref C) = false := Bool.eq_false_iff.mpr fun q => by cases beq_iff_eq.mp q
  simp only [hne, Bool.false_eq_true, if_false]
  refine wpAny_bind (d3.at ?_)
  simp only [Bool.and_self, if_true]
  refine wpAny_bind (d5.at ?_)
  have hpy : numberSlotInPython (.type "int") "mul" = pure false := rfl
  simp only [Bool.false_eq_true, if_false, pure_bind, Bool.not_false, Bool.and_self, if_true, hpy]
  refine wpAny_bind (try_declines hg ?_)
  refine wpAny_bind (wpAny_mono called (fun r s' z => ?_) fun _ _ e => e)
  obtain ⟨v, rfl, z⟩ := z
  exact wpAny_bind (wpAny_rule (wpAny_pure (wpAny_pure z)))
section
variable {X : Cx} {C : Addr} {k : Nat} {ps : List Str} {sp : Sp}
/-- k * o -/
def rMulR (C : Addr) (sp : Sp) : V → V → Hp → VK → Prop := fun x y H Q => ∃ p dx fs n, x = .int n ∧ y = .ref p ∧ H p = some (.ins C dx fs) ∧ sp [.ref p, .int n] H Q E0
theorem op_mulR (c : OwM X.prog X.w X.K X.mg X.base CX0 C "__rmul__" k ps sp) (first : PySem.W.selfFirst X.K C = true) (hl : ∃ f : Addr, PySem.W.findIn X.K (.ref C) "__mul__" = some (some (.ref f))) (hsub : PySem.W.subIn X.K (.ref C) (.type "int") = some false) (hr : Room k X.A) : OpR X (binaryOp .Mult) (rMulR C sp) := by
  intro pins s σ H x y u v Q I rx ry h
  obtain ⟨p, dx, fs, n, rfl, rfl, hp, hsp⟩ := h
  obtain ⟨f, fd, ok, hs, hf, _, hb⟩ := c.ex
  obtain ⟨fl, hfl⟩ := hl
  obtain ⟨od, J⟩ := inst_of I hp
  obtain ⟨t, rfl⟩ := id rx
  cases ry
  refine bin_right I.kIn J first hfl ⟨f, hs, hf, ?_⟩ hsub
  refine wpAny_mono (call_at (sub_self hr) ok hb I (vs := [.ref p, .int n]) (.cons rfl (.cons rx .nil)) hsp (fun e s' z => z.elim)) (fun u s' z => back_ep z) fun _ _ z => z
end
end Ow
namespace Ow
open PySem PySem.Spec PyProof.Rows L2 Bx TL Dx Zx ItX
/-! ### calls with defaults, new instances, methods, by their promises -/
structure CalD (P : Program) (w : World) (K : PySem.W.Frag) (mg : Str → Option Value) (base : Heap) (x : Str) (k : Nat) (ps : List Str) (sp : Sp) (dvs : List V) : Prop where
  ex : ∃ (f : Addr) (fd : FuncData) (ds : List Value), FnOk P w K mg base CX0 k f fd ps sp ∧ mg x = some (.ref f) ∧ PySem.W.keepIn K (.ref f) = true ∧ Binds K fd ps ds ∧ Vals dvs ds
structure MakC (P : Program) (w : World) (K : PySem.W.Frag) (mg : Str → Option Value) (base : Heap) (x : Str) (C : Addr) (k : Nat) (ps : List Str) (sp : Sp) (dvs : List V) : Prop where
  ex : ∃ (f : Addr) (fd : FuncData) (ds : List Value), Mk K C f ∧ FnOk P w K mg base CX0 k f fd ps sp ∧ mg x = some (.ref C) ∧ Binds K fd ps ds ∧ Vals dvs ds
structure MthC (P : Program) (w : World) (K : PySem.W.Frag) (mg : Str → Option Value) (base : Heap) (C : Addr) (m : Str) (k : Nat) (ps : List Str) (sp : Sp) : Prop where
  ex : ∃ (f : Addr) (fd : FuncData), Cls K C ∧ Meth K C m f ∧ FnOk P w K mg base CX0 k f fd ps sp ∧ Binds K fd ps []
section
variable {X : Cx} {x : Str} {k : Nat} {ps : List Str} {sp : Sp} {e : Expr} {es : List Expr} {t : TA} {p pos : Pos} {dvs : List V} {C : Addr}
theorem pe_calD (c : CalD X.prog X.w X.K X.mg X.base x k ps sp dvs) (hr : Room k X.A) (ha : PA X (e :: es) t) (hg : Gl X x := by rfl) (hdb : (x == ("__debug__" : Str)) = false := by decide)
    (he : starEach (e :: es) X.env = (false, eval e X.env) :: starEach es X.env := by rfl) (hpl : (backTo pos (starEach es X.env)).any (·.1) = false := by rfl) : PE X (.Call (.Name x p) (e :: es) [] pos) (tCall sp dvs E0 t) := by
  obtain ⟨f, fd, ds, ok, g, kp, b, r⟩ := c.ex
  exact pe_call (E := E0) ok hr hg g kp b r pass0 ha hdb he hpl (p := p)
theorem pe_mak (c : MakC X.prog X.w X.K X.mg X.base x C k ps sp []) (hr : Room (k + 1) X.A) (ha : PA X (e :: es) t) (hg : Gl X x := by rfl) (hdb : (x == ("__debug__" : Str)) = false := by decide)
    (he : starEach (e :: es) X.env = (false, eval e X.env) :: starEach es X.env := by rfl) (hpl : (backTo pos (starEach es X.env)).any (·.1) = false := by rfl) : PE X (.Call (.Name x p) (e :: es) [] pos) (tMake C sp [] E0 t) := by
  obtain ⟨f, fd, ds, M, ok, g, b, r⟩ := c.ex
  exact pe_make (E := E0) M ok hr hg g b r pass0 ha hdb he hpl (p := p)
theorem pe_mak0 (c : MakC X.prog X.w X.K X.mg X.base x C k ps sp dvs) (hr : Room (k + 1) X.A) (hg : Gl X x := by rfl) (hdb : (x == ("__debug__" : Str)) = false := by decide) : PE X (.Call (.Name x p) [] [] pos) (tMake C sp dvs E0 tNil) := by
  obtain ⟨f, fd, ds, M, ok, g, b, r⟩ := c.ex
  exact pe_make0 (E := E0) M ok hr hg g b r pass0 hdb (p := p)
theorem pe_mth {m : Str} {o : Expr} {to : TE} {apos : Pos} {pl : Sem Bool} (c : MthC X.prog X.w X.K X.mg X.base C m k ps sp) (hr : Room k X.A) (ho : PE X o to) (ha : PA X (e :: es) t)
    (hst : starEach (e :: es) X.env = (false, eval e X.env) :: starEach es X.env := by rfl) (hpl : (backTo pos (starEach es X.env)).any (·.1) = false := by rfl)
    (ht : eval (.Call (.Attribute o m apos) (e :: es) [] pos) X.env = (do
      let ov ← eval o X.env
      standAt apos.atName
      let (f, first) ← holding [ov] (getMethod ov m pl)
      callWith pos f first (backTo pos (starEach (e :: es) X.env)) (backToKw pos (keywordEach [] X.env))) := by rfl) : PE X (.Call (.Attribute o m apos) (e :: es) [] pos) (tMeth C m sp [] E0 to t) := by
  obtain ⟨f, fd, cl, mt, ok, b⟩ := c.ex
  exact pe_meth (E := E0) ho cl mt ok hr b .nil pass0 ha hst hpl ht
end
/-! ### // by any divisor -/
def CDivZ (_ j : Int) : Prop := j ≠ 0 ∧ j.natAbs.log2 < 9000
theorem op_fdivZ {X : Cx} : OpR X (binaryOp .FloorDiv) (rI CDivZ fun i j => .int (i.fdiv j)) := opI fun i j _ _ _ _ _ hc q => floordiv_int hc.1 q (.inl (PyProof.noPylong_of_log2 hc.2))
theorem wide_divZ {i j : Int} {b : Nat} (h : j ≠ 0) (hb : j.natAbs < 2 ^ b) (h0 : 0 < b) (h9 : b ≤ 9000) : CDivZ i j := ⟨h, Nat.lt_of_lt_of_le (PySem.Flt.log2_lt_of h0 hb) h9⟩
end Ow
/-! Calls that may raise, with a wish that knows the slots: C(..), o.m(..), f(..); C held by a local; list.count of texts. -/
namespace Px
open PySem PySem.Spec PyProof.Rows L2 Bx TL Dx Zx Ow
theorem passN {X : Cx} : Passes (L2.CX X.prog X.w) X E0 := fun _ _ _ _ _ _ _ ⟨_, _, _, _, _, _, _, _, _, _, _, _, z⟩ => z.elim
/-- `C(..)`, whose `__init__` may raise -/
structure MakX (P : Program) (w : World) (K : PySem.W.Frag) (mg : Str → Option Value) (base : Heap) (x : Str) (C : Addr) (k : Nat) (ps : List Str) (sp : Sp) : Prop where
  ex : ∃ (f : Addr) (fd : FuncData), Mk K C f ∧ FnOk P w K mg base (L2.CX P w) k f fd ps sp ∧ mg x = some (.ref C) ∧ Binds K fd ps []
structure MthX (P : Program) (w : World) (K : PySem.W.Frag) (mg : Str → Option Value) (base : Heap) (C : Addr) (m : Str) (k : Nat) (ps : List Str) (sp : Sp) : Prop where
  ex : ∃ (f : Addr) (fd : FuncData), Cls K C ∧ Meth K C m f ∧ FnOk P w K mg base (L2.CX P w) k f fd ps sp ∧ Binds K fd ps []
structure CalE (P : Program) (w : World) (K : PySem.W.Frag) (mg : Str → Option Value) (base : Heap) (x : Str) (k : Nat) (ps : List Str) (sp : Sp) : Prop where
  ex : ∃ (f : Addr) (fd : FuncData), FnOk P w K mg base (L2.CX P w) k f fd ps sp ∧ mg x = some (.ref f) ∧ PySem.W.keepIn K (.ref f) = true ∧ Binds K fd ps []
section
variable {X : Cx} {x : Str} {k : Nat} {ps : List Str} {sp : Sp} {e : Expr} {es : List Expr} {t : TA} {p pos : Pos} {C : Addr} {W : WX}
theorem run_makS {pins : List (Addr × Obj)} {σ : L2.St} {H : Hp} {s : Shared} {Q : VK} {E : XK} {us : List Value} {vs : List V} {f : Addr} {fd : FuncData} (M : Mk X.K C f) (F : FnOk X.prog X.w X.K X.mg X.base (L2.CX X.prog X.w) k f fd ps sp) (hr : Room (k + 1) X.A) (b : Binds X.K fd ps [])
    (hx : PassesAt (L2.CX X.prog X.w) X σ E) (I : Inv X pins σ H s) (rv : Vals vs us) (h : ∀ y dy, H y = none → H dy = none → dy ≠ y → sp (.ref y :: vs) (upd (upd H dy (.own y)) y (.ins C dy [])) (fun v G => v = .non ∧ Q (.ref y) G) E) :
    wpAny (model X.prog X.w) X.A (call (.ref C) us) (EP X pins σ Q) X.xe s := by
  have n1 := I.hok.fresh (Nat.le_refl s.heap.objs.size)
  have n2 := I.hok.fresh (Nat.le_succ s.heap.objs.size)
  have g := h _ _ n2 n1 (Nat.ne_of_lt (Nat.lt_succ_self s.heap.objs.size))
  have J := Inv.made (C := C) I
  have rs : Vals (V.ref (s.heap.objs.size + 1) :: vs) (Value.ref (s.heap.objs.size + 1) :: us) := .cons rfl rv
  have ln : (Value.ref (s.heap.objs.size + 1) :: us).length = ps.length := rs.length.symm.trans (F.len _ _ _ _ g)
  have bd := b _ (Value.ref (s.heap.objs.size + 1) :: us) J.kIn (by rw [List.append_nil]; exact ln)
  rw [List.append_nil] at bd
  refine wpAny_call (make_map (f := f) I.kIn M.makes M.init (beq_iff_eq.mp M.fn) (codeAny_mono (F.run _ X.stack _ _ _ _ _ _ E (hr.make C us []) (J.env0.make C us []) bd rs g) fun res s' back => ?_))
  match res, back with
  | .error er, back => exact hx pins _ _ er s' J back
  | .ok (.ret u), back =>
    obtain ⟨v, G, J2, r2, e2, q⟩ := J.after back
    subst e2
    exact ⟨r2, .ref (s.heap.objs.size + 1), G, J2, rfl, q⟩
  | .ok .next, back => exact back.elim
  | .ok .brk, back => exact back.elim
  | .ok .cont, back => exact back.elim
def tMakX (C : Addr) (sp : Sp) (W : WX) (t : TA) : TE := fun σ H Q => t σ H fun vs H1 => ∀ y dy, H1 y = none → H1 dy = none → dy ≠ y → sp (.ref y :: vs) (upd (upd H1 dy (.own y)) y (.ins C dy [])) (fun v G => v = .non ∧ Q (.ref y) G) (WE W σ)
theorem pe_makX (c : MakX X.prog X.w X.K X.mg X.base x C k ps sp) (tk : Takes X W) (hr : Room (k + 1) X.A) (ha : PA X (e :: es) t) (hg : Gl X x := by rfl) (hdb : (x == ("__debug__" : Str)) = false := by decide)
    (he : starEach (e :: es) X.env = (false, eval e X.env) :: starEach es X.env := by rfl) (hpl : (backTo pos (starEach es X.env)).any (·.1) = false := by rfl) : PE X (.Call (.Name x p) (e :: es) [] pos) (tMakX C sp W t) := by
  obtain ⟨f, fd, M, ok, g, b⟩ := c.ex
  refine ⟨fun pins s σ H Q I h => wpAny_Call_Name_kw (ld_glob I hg g ?_ hdb)⟩
  exact PySem.W.callWith_K (h₀ := X.base) I.ok.mod.kin M.kp (thn (ha.run pos pins s σ H _ I h) fun us s1 ⟨vs, H1, I1, rv, q⟩ => ⟨I1.kIn, run_makS M ok hr b (passAt tk σ) I1 rv q⟩) he hpl
theorem pe_makN (c : MakX X.prog X.w X.K X.mg X.base x C k ps sp) (hr : Room (k + 1) X.A) (ha : PA X (e :: es) t) (hg : Gl X x := by rfl) (hdb : (x == ("__debug__" : Str)) = false := by decide)
    (he : starEach (e :: es) X.env = (false, eval e X.env) :: starEach es X.env := by rfl) (hpl : (backTo pos (starEach es X.env)).any (·.1) = false := by rfl) : PE X (.Call (.Name x p) (e :: es) [] pos) (tMake C sp [] E0 t) := by
  obtain ⟨f, fd, M, ok, g, b⟩ := c.ex
  exact pe_make (E := E0) M ok hr hg g b .nil passN ha hdb he hpl (p := p)
/-- the class in a slot: `cls(..)` -/
def tMakL (i : Nat) (C : Addr) (sp : Sp) (t : TA) : TE := fun σ H Q => σ[i]? = some (some (.ref C)) ∧ tMake C sp [] E0 t σ H Q
theorem pe_makL {i : Nat} {y : Str} (c : MakX X.prog X.w X.K X.mg X.base x C k ps sp) (hr : Room (k + 1) X.A) (hN : X.N[i]? = some y) (hv : Vis X.env.scope y) (ha : PA X (e :: es) t) (hdb : (y == ("__debug__" : Str)) = false := by decide) (hcd : (y == ("__classdict__" : Str)) = false := by decide)
    (he : starEach (e :: es) X.env = (false, eval e X.env) :: starEach es X.env := by rfl) (hpl : (backTo pos (starEach es X.env)).any (·.1) = false := by rfl) : PE X (.Call (.Name y p) (e :: es) [] pos) (tMakL i C sp t) := by
  obtain ⟨f, fd, M, ok, g, b⟩ := c.ex
  refine ⟨fun pins s σ H Q I h => ?_⟩
  obtain ⟨h1, h2⟩ := h
  refine wpAny_Call_Name_kw (thn ((pe_var (pos := p) hN hv hdb hcd).run pins s σ H (fun v G => v = .ref C ∧ G = H) I ⟨.ref C, h1, rfl, rfl⟩) fun u s1 ⟨v, G, I1, r1, q1⟩ => ?_)
  obtain ⟨rfl, rfl⟩ := q1
  cases r1
  exact PySem.W.callWith_K (h₀ := X.base) I.ok.mod.kin M.kp (thn (ha.run pos pins s1 σ _ _ I1 h2) fun us s2 ⟨vs, H2, I2, rv, q⟩ => ⟨I2.kIn, run_make M ok hr b .nil passN I2 rv q⟩) he hpl
def tMthX (C : Addr) (m : Str) (sp : Sp) (W : WX) (ta : TE) (t : TA) : TE := fun σ H Q => ta σ H fun v H1 => ∃ a dx fs, v = .ref a ∧ H1 a = some (.ins C dx fs) ∧ fs.lookup m = none ∧ t σ H1 fun vs H2 => sp (v :: vs) H2 Q (WE W σ)
theorem pe_mthX {m : Str} {o : Expr} {to : TE} {apos : Pos} {pl : Sem Bool} (c : MthX X.prog X.w X.K X.mg X.base C m k ps sp) (tk : Takes X W) (hr : Room k X.A) (ho : PE X o to) (ha : PA X (e :: es) t)
    (hst : starEach (e :: es) X.env = (false, eval e X.env) :: starEach es X.env := by rfl) (hpl : (backTo pos (starEach es X.env)).any (·.1) = false := by rfl)
    (ht : eval (.Call (.Attribute o m apos) (e :: es) [] pos) X.env = (do
      let ov ← eval o X.env
      standAt apos.atName
      let (f, first) ← holding [ov] (getMethod ov m pl)
      callWith pos f first (backTo pos (starEach (e :: es) X.env)) (backToKw pos (keywordEach [] X.env))) := by rfl) : PE X (.Call (.Attribute o m apos) (e :: es) [] pos) (tMthX C m sp W to t) := by
  obtain ⟨f, fd, cl, mt, ok, b⟩ := c.ex
  refine ⟨fun pins s σ H Q I h => PySem.W.methodCall_KW (pl := pl) (thn (ho.run pins s σ H _ I h) fun u s1 ⟨v, H1, I1, rx, a, dx, fs, ev, ea, l, q⟩ => ?_) ht⟩
  subst ev
  cases rx
  refine getmeth_ok I1 ea cl mt l (PySem.W.callWith_K (first := [.ref a]) (h₀ := X.base) I.ok.mod.kin mt.kp (thn (ha.run pos pins s1 σ H1 _ I1 q) fun us s2 ⟨vs, H2, I2, rv, q2⟩ => ⟨I2.kIn, ?_⟩) hst hpl)
  exact run_fnS (E := fun σ => WE W σ) (us := .ref a :: us) (vs := .ref a :: vs) ok hr b (passAt tk σ) I2 (.cons rfl rv) q2
theorem pe_calE (c : CalE X.prog X.w X.K X.mg X.base x k ps sp) (tk : Takes X W) (hr : Room k X.A) (ha : PA X (e :: es) t) (hg : Gl X x := by rfl) (hdb : (x == ("__debug__" : Str)) = false := by decide)
    (he : starEach (e :: es) X.env = (false, eval e X.env) :: starEach es X.env := by rfl) (hpl : (backTo pos (starEach es X.env)).any (·.1) = false := by rfl) : PE X (.Call (.Name x p) (e :: es) [] pos) (tCallS sp (fun σ => WE W σ) t) := by
  obtain ⟨f, fd, ok, g, kp, b⟩ := c.ex
  exact pe_callS ok hr hg g kp b (fun σ => passAt tk σ) ha hdb he hpl (p := p)
end
/-! ### xs.count(x) of texts -/
section
variable {X : Cx}
def rCntS (K : PySem.W.Frag) : V → List V → Hp → VK → Prop := fun x xs H Q => ∃ (p : Addr) (ns : List Str) (z : Str), x = .ref p ∧ xs = [.str z] ∧ SqL K H p (ns.map V.str) ∧ Q (.int (ns.count z : Nat)) H
theorem plain_strs : ∀ ns : List Str, PyData.plainAll (ns.map PyData.str) = true
  | [] => rfl
  | n :: ns => by
    show (PyData.plain (PyData.str n) && PyData.plainAll (ns.map PyData.str)) = true
    rw [plain_strs ns]
    rfl
theorem depth_strs : ∀ ns : List Str, PyData.depthAll (ns.map PyData.str) ≤ 1
  | [] => Nat.zero_le 1
  | n :: ns => by
    show max (PyData.depth (PyData.str n)) (PyData.depthAll (ns.map PyData.str)) ≤ 1
    exact Nat.max_le.mpr ⟨by show 0 ≤ 1; omega, depth_strs ns⟩
theorem cnt_strs (z : Str) : ∀ ns : List Str, (ns.map PyData.str).countP (fun y => PyData.eqv y (.str z)) = ns.count z
  | [] => rfl
  | n :: ns => by
    rw [List.map_cons, List.countP_cons, List.count_cons, cnt_strs z ns]
    rfl
theorem mt_lcountS (hu : X.A.units + 65 < cLine) : MtR X "list.count" (rCntS X.K) := by
  intro pins s σ H x xs v us Q I rx rxs h
  obtain ⟨p, ns, z, rfl, rfl, hs, q⟩ := h
  cases rx
  obtain ⟨u, rfl, ru⟩ := rxs.one
  obtain ⟨t, rfl⟩ := ru
  obtain ⟨its, rv, pl, _⟩ := I.list hs
  obtain ⟨as, ra⟩ := Dp.readsAll I _ _ its (dp_strs ns) rv
  refine SeqAt.count_list_data pl.isList (by simpa using ra) (Reads.str z t) (plain_strs ns) rfl ?_ ?_
  · have := depth_strs ns
    have := Nat.min_le_left (PyData.depthAll (ns.map PyData.str)) (PyData.depth (.str z))
    omega
  · rw [cnt_strs]
    exact ⟨.int (ns.count z : Nat), H, I.tok _, ⟨s.toks, rfl⟩, q⟩
end
end Px
set_option maxHeartbeats 4000000
/-! t * k for any k from 0 on, t a tuple with items. -/
namespace Px
open PySem PySem.Spec PyProof.Rows L2 Bx TL Dx Zx Ow
theorem mul_one (l : Addr) (its : Array Value) (n : Nat) (dd : Option Addr) (sl : Array (Option Value)) (u : Tok) :
    Meets (Builtin.«tuple.__mul__» ⟨[.ref l, .int 1 u], []⟩) (fun _ R s => s.heap.get? l = some { cls := .type "tuple", dict := dd, data := .seq its n, slots := sl } ∧ R (.ok (.ret (.ref l))) s) :=
  .of_wp fun prog w A R s h => by
    obtain ⟨hp, g, d, tk, os⟩ := s
    obtain ⟨hl, h⟩ := h
    have f1 := AutoSeq1.idx_int
    have c1 : (its.isEmpty || (1 : Int) == 1) = true := by rw [show ((1 : Int) == 1) = true from rfl, Bool.or_true]
    wp_walk using wpAny_loadPart' hl
    repeat (first
      | (refine wpAny_ite_true (decide_eq_true c1) ?_; wp_walk using wpAny_loadPart' hl)
      | (refine wpAny_ite_false (by decide) ?_; wp_walk using wpAny_loadPart' hl))
    exact ⟨_, rfl, h⟩
theorem mul_nil (l : Addr) (its : Array Value) (n : Nat) (dd : Option Addr) (sl : Array (Option Value)) (u : Tok) (hi : its.isEmpty = false) :
    Meets (Builtin.«tuple.__mul__» ⟨[.ref l, .int 0 u], []⟩) (fun _ R s => s.heap.get? l = some { cls := .type "tuple", dict := dd, data := .seq its n, slots := sl } ∧
      R (.ok (.ret (Value.ref s.heap.objs.size))) { s with heap := s.heap.push { cls := Value.type "tuple", data := Data.seq #[] }, toks := s.toks }) :=
  .of_wp fun prog w A R s h => by
    obtain ⟨hp, g, d, tk, os⟩ := s
    obtain ⟨hl, h⟩ := h
    have f1 := AutoSeq1.idx_int
    have c1 : (its.isEmpty || (0 : Int) == 1) = false := by rw [hi]; rfl
    wp_walk using wpAny_loadPart' hl
    repeat (first
      | (refine wpAny_ite_false (decide_eq_false (by rw [c1]; exact Bool.false_ne_true)) ?_; wp_walk using wpAny_loadPart' hl)
      | (refine wpAny_ite_true (by decide) ?_; wp_walk using wpAny_loadPart' hl)
      | (refine wpAny_ite_false (by decide) ?_; wp_walk using wpAny_loadPart' hl))
    exact ⟨_, rfl, h⟩
def rRepA (K : PySem.W.Frag) : R2 := fun x y H Q => ∃ (l : Addr) (k : Nat) (xs : List V), x = .ref l ∧ y = .int (k : Int) ∧ SqT K H l xs ∧ xs ≠ [] ∧ k ≤ 1000 ∧ xs.length ≤ 1000 ∧ (k = 1 → Q (.ref l) H) ∧ (k ≠ 1 → ∀ p, H p = none → Q (.ref p) (upd H p (.tup (List.replicate k xs).flatten)))
theorem op_repA {X : Cx} : OpR X (binaryOp .Mult) (rRepA X.K) := by
  intro pins s σ H x y v u Q I rx ry h
  obtain ⟨l, k, xs, rfl, rfl, hT, hne, hk, hx, q1, q2⟩ := h
  by_cases h2 : 2 ≤ k
  · exact op_repT pins s σ H _ _ v u Q I rx ry ⟨l, (k : Int), xs, rfl, rfl, hT, hne, by omega, by omega, hx, fun p np => q2 (by omega) p np⟩
  · cases rx
    obtain ⟨t, rfl⟩ := ry
    obtain ⟨its, rv, ⟨⟨cls, dd, data, sl⟩, ho, hc, n, hd⟩, hsz⟩ := I.tuple hT
    simp only at hc hd
    subst hc hd
    have hi : its.toArray.isEmpty = false := by
      cases its with
      | nil =>
        cases rv
        exact absurd rfl hne
      | cons a b => rfl
    have hT2 : s.TypeIs (.ref l) "tuple" := ⟨_, ho, rfl⟩
    have go : ∀ {Z : Value → Shared → Prop} {D : Value → Shared → Prop}, wpAny (model X.prog X.w) X.A (call (.builtin "tuple.__mul__") [.ref l, .int (k : Int) t]) Z D s → wpAny (model X.prog X.w) X.A (binaryOp .Mult (.ref l) (.int (k : Int) t)) Z D s := fun {Z D} z =>
      wpAny_binaryOp_repeat_ref (T := "tuple") (U := "int") (by decide) hT2 (fun z => typeIs_int z (k : Int) t) noFill_tuple_mul F.fills_int_mul F.slot_int_rmul repeat_tuple F.slot_int_index.lookup
        (call_meets F.slot_int_rmul (typeIs_int s (k : Int) t) F.entry_int_rmul (F.args_int_rmul_2 _ _) (int_rmul_tuple (k : Int) t l its.toArray n dd sl) ⟨ho, rfl, hT2, z⟩)
    refine go ?_
    rcases (show k = 0 ∨ k = 1 by omega) with rfl | rfl
    · refine call_meets F.slot_tuple_mul hT2 F.entry_tuple_mul (F.args_tuple_mul_2 _ _) (mul_nil l its.toArray n dd sl t hi) ⟨ho, ?_⟩
      exact ⟨.ref s.heap.objs.size, _, I.laid (t' := s.toks) (o := .tup []) (fun b ob q => Heap.get?_push_of_some _ q) (Nat.le_refl _) ⟨Nat.zero_le _, [], .nil, IsTup.new _ _⟩, rfl, q2 (by omega) _ (I.hok.fresh (Nat.le_refl _))⟩
    · exact call_meets F.slot_tuple_mul hT2 F.entry_tuple_mul (F.args_tuple_mul_2 _ _) (mul_one l its.toArray n dd sl t) ⟨ho, .ref l, H, I, rfl, q1 rfl⟩
end Px
/-! try with several clauses, each of which names the error by the same name. -/
namespace Px
open PySem PySem.Spec PyProof.Rows L2 Bx TL Dx Zx Ow
abbrev Cl := Value × (Addr → Value → Option Addr → TS)
/-- the ends of a suite behind which slot i is taken away -/
def gone (i : Nat) (D : Ends) : Ends := { nx := fun σ H => D.nx (σ.set i none) H, rt := D.rt, bk := fun σ H => D.bk (σ.set i none) H, ct := fun σ H => D.ct (σ.set i none) H }
def wAsM (K : PySem.W.Frag) (i : Nat) (W0 : WX) (D : Ends) : List Cl → WX
  | [] => W0
  | c :: r => fun cls d σ H => ∃ b, PySem.W.exmOne K cls c.1 = some b ∧ (b = true → ∀ a, H a = none → c.2 a cls d (gone i D) (σ.set i (some (.ref a))) H) ∧ (b = false → wAsM K i W0 D r cls d σ H)
inductive HdA (X : Cx) (n : Str) : List ExceptHandler → List Cl → Prop
  | nil : HdA X n [] []
  | cons {x : Str} {c : Cl} {b0 : Stmt} {bs : List Stmt} {p1 p2 : Pos} {hs : List ExceptHandler} {l : List Cl} (nm : Names X x c.1)
      (su : ∀ (a : Addr) (o : Obj) (cls : Value) (d : Option Addr) (pn : List (Addr × Obj)), Zc cls d o → (∃ vs, o.data = .fields vs) → PSs (X.suite a ((a, o) :: pn)) (b0 :: bs) (c.2 a cls d)) (r : HdA X n hs l) :
      HdA X n (.ExceptHandler (some (.Name x p1)) (some n) (b0 :: bs) p2 :: hs) (c :: l)
section
variable {X : Cx} {n : Str} {i : Nat} {body : List Stmt} {h0 : ExceptHandler} {hs : List ExceptHandler} {l : List Cl} {pos : Pos} {tb : WX → TS} {W0 : WX}
theorem ps_tryA (hst : X.stack = X.env :: X.outer) (hfr : X.env.frame = some X.env.locals) (nd : X.N.Nodup) (hi : X.N[i]? = some n) (loc : X.env.kindOf n = some .local) (tk : Takes X W0)
    (hb : ∀ (W : WX) (pn : List (Addr × Obj)) (xe : Value → Shared → Prop), Takes (X.tr pn xe) W → PassesOwn (model X.prog X.w) X.A X.env xe → PSs (X.tr pn xe) body (tb W)) (hh : HdA X n (h0 :: hs) l) :
    PS X (.Try body (h0 :: hs) [] [] pos) (fun D σ H => tb (wAsM X.K i W0 D l) D σ H) := by
  refine ⟨fun pins s σ H D I h => wpAny_Try_except ?_⟩
  have ok := I.ok
  have fr2 : X.A.frames = some (X.env :: X.outer) := by rw [ok.frames, hst]
  refine wpAny_mono ((hb (wAsM X.K i W0 D l) (X.pn ++ pins) (fun e t1 => wpAny (model X.prog X.w) X.A (noteFrame e X.env) (fun _ t2 => wpAny (model X.prog X.w) X.A (setFlight e none) (fun _ t3 => wpAny (model X.prog X.w) X.A (handleBy e X.env (h0 :: hs)) (SP X pins D) X.xe t3) X.xe t2) X.xe t1)
    (fun er s' got => ?_) PassesOwn.looking).run [] s σ H D (I.toTry _) h) (fun fl s1 hsp => ?_) (fun er s1 he => he)
  · obtain ⟨a, B, sI, pins2, τ, G, cls, d, rfl, J0, nb, up, sky, na, os, ag, wish⟩ := got
    have J : Inv X pins τ G sI := J0.ofTry ok
    have sk2 : Sky B (X.env :: X.outer) a (Zc cls d) X.env.locals s'.heap := by rw [← hst]; exact sky
    show wpAny (model X.prog X.w) X.A (noteFrame (.ref a) X.env) _ _ _
    refine Sky.land Zc.steady fr2 hfr sk2 fun h3 fl3 up3 => ?_
    have J3 : Inv X pins τ G { s' with heap := h3 } := J.landed nb fl3.1 (up.trans up3) os ag
    obtain ⟨o3, v3, ho3, hz3, hd3⟩ := fl3.there
    have out : a ∉ frs (X.env :: X.outer) := fun hm => by
      obtain ⟨_, o2, ho2, no⟩ := fl3.2.2.1.mem hm
      rw [ho3] at ho2
      cases ho2
      exact no _ hd3
    have nL : a ≠ X.env.locals := fun z => out (List.mem_filterMap.mpr ⟨X.env, List.mem_cons_self, hfr.trans (congrArg some z.symm)⟩)
    have nF : a ∉ X.fs := fun hm => by
      obtain ⟨e, he, q⟩ := List.mem_filterMap.mp hm
      exact out (List.mem_filterMap.mpr ⟨e, List.mem_cons_of_mem _ he, q⟩)
    have S3 := J3.suite ho3 hd3 na nL nF
    have go : ∀ {hs2 : List ExceptHandler} {l2 : List Cl}, HdA X n hs2 l2 → wAsM X.K i W0 D l2 cls d τ G → wpAny (model X.prog X.w) X.A (handleBy (.ref a) X.env hs2) (SP X pins D) X.xe { s' with heap := h3 } := by
      intro hs2 l2 hk
      induction hk with
      | nil =>
        intro wish
        refine wpAny_handleBy_nil ?_
        obtain ⟨_, _, _, o4, v4, T, _, _, ho4, _, hd4, hT, _⟩ := id fl3
        unfold PySem.passOn
        refine wpAny_bind (wpAny_field ho4 hd4 hT ?_)
        rw [if_neg (show ¬ ((Value.ref T == Value.none) = true) from Bool.false_ne_true)]
        have last : wpAny (model X.prog X.w) X.A (setFlight (.ref a) X.env.frame) (fun _ t => wpAny (model X.prog X.w) X.A (throw (.ref a) : Sem Flow) (SP X pins D) X.xe t) X.xe { s' with heap := h3 } := by
          rw [hfr]
          refine HandSPX.setFlight_upZ fl3 fun h4 hh4 up4 => wpAny_throw (tk _ _ ⟨a, B, sI, pins, τ, G, cls, d, rfl, J, nb, (up.trans up3).trans up4, .inr (.inr ?_), na, os, ag, wish⟩)
          rw [hst]
          exact hh4
        first
          | exact wpAny_bind (wpAny_pure (wpAny_bind last))
          | exact wpAny_bind last
      | @cons x c b0 bs p1 p2 hs3 l3 nm su r ih =>
        intro wish
        obtain ⟨b, eb, yes, no⟩ := wish
        refine wpAny_handleBy_cons (codeAny_handlers_test ?_) (by intro q; cases q)
        have LT : PySem.W.Looks (model X.prog X.w) h3 (typeOf (.ref a)) cls := fun A Q E t k q => wpAny_typeOf_ref (k _ _ ho3) (by rw [hz3.1]; exact q)
        have LM := PySem.W.exm_one (M := model X.prog X.w) J3.kIn LT eb
        have look : ∀ {Q : Value → Shared → Prop} {E : Value → Shared → Prop}, Q c.1 { s' with heap := h3 } → wpAny (model X.prog X.w) (X.A.mark (some (.ref a))) (eval (.Name x p1) X.env) Q E { s' with heap := h3 } := fun {Q E} q => by
          obtain ⟨hg, hdb, hm | ⟨hm, hv, hnn⟩⟩ := nm
          · exact ld_glob (X := X.suite a ((a, o3) :: (X.pn ++ pins))) S3 hg hm q hdb
          · exact ld_blt (X := X.suite a ((a, o3) :: (X.pn ++ pins))) S3 hg hm hv q hnn hdb
        refine look (LM.here ?_)
        cases b with
        | false =>
          show wpAny _ X.A (handleBy (.ref a) X.env hs3) _ _ _
          exact ih (no rfl)
        | true =>
          refine codeAny_handlers_suite_as (HandSPX.lands_againZ fl3 fun h4 fl4 up4 => ?_)
          have J4 : Inv X pins τ G { s' with heap := h4 } := J.landed nb fl4.1 ((up.trans up3).trans up4) os ag
          obtain ⟨o4, v4, ho4, hz4, hd4⟩ := fl4.there
          refine store_ok (X := X.suite a ((a, o4) :: (X.pn ++ pins))) (v := .ref a) (J4.suite ho4 hd4 na nL nF) nd hi (.inl loc) rfl (fun s5 S5 => ?_) (.inr loc)
          refine wpAny_mono ((su a o4 cls d (X.pn ++ pins) hz4 ⟨_, hd4⟩).run [] s5 _ G _ S5 (yes rfl a na)) (fun fl s6 hsp => ?_) (fun _ _ z => False.elim z)
          have out6 : ∀ {ρ : L2.St} {H6 : Hp} {Q : Shared → Prop}, Inv (X.suite a ((a, o4) :: (X.pn ++ pins))) [] ρ H6 s6 → (∀ s7, Inv X pins (ρ.set i none) H6 s7 → Q s7) → wpAny (model X.prog X.w) X.A (do bindName X.env n .none; unbindBehindTheSuite X.env n p2) (fun _ s7 => Q s7) X.xe s6 :=
            fun S6 hq => gone_ok (S6.unsuite ok) nd hi loc hq
          match fl, hsp with
          | .next, ⟨ρ, H6, S6, q⟩ => exact out6 S6 fun s7 J7 => ⟨_, _, J7, q⟩
          | .brk, ⟨ρ, H6, S6, q⟩ => exact out6 S6 fun s7 J7 => ⟨_, _, J7, q⟩
          | .cont, ⟨ρ, H6, S6, q⟩ => exact out6 S6 fun s7 J7 => ⟨_, _, J7, q⟩
          | .ret u, ⟨v6, ρ, H6, S6, r6, q⟩ => exact out6 S6 fun s7 J7 => ⟨_, _, _, J7, r6, q⟩
    exact go hh wish
  · match fl, hsp with
    | .next, ⟨ρ, G, J, q⟩ => exact wpAny_execs_nil ⟨ρ, G, J.ofTry ok, q⟩
    | .brk, ⟨ρ, G, J, q⟩ => exact ⟨ρ, G, J.ofTry ok, q⟩
    | .cont, ⟨ρ, G, J, q⟩ => exact ⟨ρ, G, J.ofTry ok, q⟩
    | .ret u, ⟨v, ρ, G, J, rv, q⟩ => exact ⟨v, ρ, G, J.ofTry ok, rv, q⟩
end
end Px
/-! list(o), o of an own class with `__iter__` over a tuple and `__len__`. -/
namespace Px
open PySem PySem.Spec PyProof.Rows L2 Bx TL Dx Zx Ow
section
variable {X : Cx} {pins : List (Addr × Obj)} {σ : L2.St} {H : Hp} {s : Shared} {C p dx : Addr} {fs : List (Str × V)} {k : Nat} {ps : List Str} {sp : Sp} {A1 : Around} {E1 : Value → Shared → Prop}
theorem len_at {Q : Value → Shared → Prop} (sb : Sub X (k + 1) A1) (c : OwM X.prog X.w X.K X.mg X.base CX0 C "__len__" k ps sp) (I : Inv X pins σ H s) (ha : H p = some (.ins C dx fs)) (hsp : sp [.ref p] H (fun v G => G = H ∧ ∃ n : Nat, v = .int (n : Int) ∧ n ≤ 1000) E0)
    (q : ∀ (n : Nat) t s', n ≤ 1000 → Inv X pins σ H s' → Q (.int (n : Int) t) s') : wpAny (model X.prog X.w) A1 (call (.builtin "len") [.ref p]) Q E1 s := by
  obtain ⟨f, fd, ok, hs, hf, _, hb⟩ := c.ex
  obtain ⟨od, J⟩ := inst_of I ha
  obtain ⟨m, hF⟩ := I.fr
  refine PySem.W.len_K hF I.ok.mod.kin J hs hf ?_
  refine wpAny_mono (call_at sb.in1 ok hb I (vs := [.ref p]) (.cons rfl .nil) hsp (fun e s' z => z.elim)) (fun u s' hu => ?_) (fun _ _ z => z)
  obtain ⟨v, G, I', rv, rfl, n, rfl, hn⟩ := hu
  obtain ⟨t, rfl⟩ := rv
  exact ⟨⟨by omega, by omega⟩, q n _ _ hn (I'.tok _)⟩
theorem hint_own {Q : Bool → Shared → Prop} (sb : Sub X (k + 1) A1) (c : OwM X.prog X.w X.K X.mg X.base CX0 C "__len__" k ps sp) (I : Inv X pins σ H s) (ha : H p = some (.ins C dx fs)) (hsp : sp [.ref p] H (fun v G => G = H ∧ ∃ n : Nat, v = .int (n : Int) ∧ n ≤ 1000) E0)
    (q : ∀ b s', Inv X pins σ H s' → Q b s') : wpAny (model X.prog X.w) A1 (Builtin.List.listLengthHint (.ref p)) Q E1 s := by
  obtain ⟨f, fd, ok, hs, hf, _, hb⟩ := id c.ex
  obtain ⟨od, J⟩ := inst_of I ha
  unfold Builtin.List.listLengthHint
  refine wpAny_bind (wpAny_bind (J.type.here ((PySem.W.looks_findIn I.kIn hs).here ?_)))
  refine PySem.W.KFB.if_not rfl ?_
  show wpAny _ _ (rule _ >>= _) _ _ _
  refine wpAny_bind (wpAny_rule ?_)
  refine wpAny_bind (wpAny_attempt (len_at sb c I ha hsp fun n t s' hn I' => ?_))
  show wpAny _ _ (asInt? (Value.int (n : Int) t) >>= _) _ _ _
  refine wpAny_bind (wpAny_pure ?_)
  refine PySem.W.KFB.if_not ?_ (wpAny_pure (q _ s' I'))
  show decide ((n : Int).toNat > sizeLine) = false
  rw [sizeLine_eq]
  exact decide_eq_false (by omega)
/-- the iterator of o, where `__iter__` gives iter(self.f) -/
theorem iter_at {f : Str} {t : Addr} {zs : List V} {Q : Value → Shared → Prop} (sb : Sub X k A1) (c : ItM X.prog X.w X.K X.mg X.base C f k) (I : Inv X pins σ H s) (ha : H p = some (.ins C dx fs)) (hl : fs.lookup f = some (.ref t)) (hz : SqT X.K H t zs)
    (q : ∀ it s', Inv X pins σ H s' → s'.heap.IsTupleIter it t 0 → FpOk X pins H it → Q (.ref it) s') : wpAny (model X.prog X.w) A1 (pyIter (.ref p)) Q E1 s := by
  obtain ⟨fi, hfi, hf, go⟩ := c.ex
  obtain ⟨od, J⟩ := inst_of I ha
  obtain ⟨m, hF⟩ := I.fr
  refine PySem.W.owit_iter hF I.ok.mod.kin J hfi hf ?_
  have z0 := I.env0
  have e0 : Env0 X.prog X.w X.K X.mg X.base A1 X.stack s H := ⟨by rw [sb.fr]; exact z0.frames, z0.mod, z0.bs, z0.bsz, z0.funs, z0.frf, z0.hok, z0.bare⟩
  refine wpAny_call (codeAny_mono (go A1 X.stack s H E0 p dx t fs zs sb.room e0 ha hl hz) fun res s' back => ?_)
  match res, back with
  | .error e, back => exact back.elim
  | .ok .next, back => exact back.elim
  | .ok .brk, back => exact back.elim
  | .ok .cont, back => exact back.elim
  | .ok (.ret u), back =>
    obtain ⟨v, G, I2, rv, it, rfl, n1, hy, rfl⟩ := I.after back
    cases rv
    have e2 : upd H it (TiO t it) it = some (TiO t it) := upd_same
    have hit : s'.heap.IsTupleIter it t 0 := by
      have : ObjOk X.prog X.w (upd H it (TiO t it)) s'.heap it (.ext fun h => h.IsTupleIter it t 0) := I2.hok it _ e2
      exact this.1
    show wpAny _ _ (specialOf (.ref it) "__next__") _ _ _
    refine wpAny_specialOf (name := Str.ofString "__next__") hit.typeIs PySem.F.slot_tuple_iterator_next.lookup ?_
    have I3 := ItX.inv_drop I2 e2
    have fp := ItX.inv_fp I2 e2 (Nat.le_trans I.sz hy)
    rw [ItX.dropH_upd n1] at I3 fp
    exact q it s' I3 hit fp
theorem ext_loop {L it t : Addr} {zs : List V} {Rs : Result → Shared → Prop} (hc : X.calm = true) (hL : H L = some (.lst [])) (hz : SqT X.K H t zs) (hzl : zs.length ≤ 1000) (fp : FpOk X pins H it)
    (done : ∀ s', Inv X pins σ (upd H L (.lst zs)) s' → Rs (.ok (.ret .none)) s') :
    ∀ (m i : Nat) (s : Shared), zs.length - i = m → i ≤ zs.length → Inv X pins σ (upd H L (.lst (zs.take i))) s → s.heap.IsTupleIter it t i → codeAny (model X.prog X.w) X.A.in1 (.builtin "list.extend.loop" ⟨[.ref L, .ref it, .none], []⟩) Rs s := by
  have hzi : ∀ ys, SqT X.K (upd H L (.lst ys)) t zs := fun ys => by
    rcases hz with (h | ⟨u, h⟩) | h
    · exact .inl (.inl (by rw [upd_ne fun z => by rw [z, hL] at h; cases h]; exact h))
    · exact .inl (.inr ⟨u, by rw [upd_ne fun z => by rw [z, hL] at h; cases h]; exact h⟩)
    · exact .inr h
  have hit : it ≠ L := fun z => by
    have := fp.1
    rw [z, hL] at this
    cases this
  have fpi : ∀ ys, FpOk X pins (upd H L (.lst ys)) it := fun ys => ⟨by rw [upd_ne hit]; exact fp.1, fp.2⟩
  intro m
  induction m with
  | zero =>
    intro i s hm hi I st
    have e : i = zs.length := by omega
    subst e
    obtain ⟨its, rv, pt, _⟩ := I.tuple (hzi _)
    obtain ⟨f0, f1, f2, f3, f4, f5⟩ := fpi (zs.take zs.length)
    have hl := rv.length
    refine codeAny_builtin PySem.F.entry_extend_loop ?_
    rw [Around.under_plainId PySem.F.plain_extend_loop _]
    show wpAny _ X.A.in1.in1 (pyNext (.ref it) >>= _) _ _ s
    refine wpAny_bind (wpAny_pyNext_tuple_end (I.ok.hd hc) st (show s.heap.IsTuple t its.toArray from pt) (by simp; omega) fun h' eb => ?_)
    have I1 : Inv X pins σ (upd H L (.lst (zs.take zs.length))) { s with heap := h' } := I.turned (t' := s.toks) (fun b o hb e => eb b o hb e) f0 f1 f3 f4 f5
    rw [List.take_length] at I1
    exact wpAny_pure (done _ I1)
  | succ m ih =>
    intro i s hm hi I st
    have hlt : i < zs.length := by omega
    obtain ⟨its, rv, pt, _⟩ := I.tuple (hzi _)
    obtain ⟨u, hu, ru⟩ := rv.get (List.getElem?_eq_getElem hlt)
    obtain ⟨f0, f1, f2, f3, f4, f5⟩ := fpi (zs.take i)
    refine codeAny_builtin PySem.F.entry_extend_loop ?_
    rw [Around.under_plainId PySem.F.plain_extend_loop _]
    show wpAny _ X.A.in1.in1 (pyNext (.ref it) >>= _) _ _ s
    refine wpAny_bind (wpAny_pyNext_tuple_item st (show s.heap.IsTuple t its.toArray from pt) (x := u) (by simpa using hu) fun h' st' sb => ?_)
    have I1 : Inv X pins σ (upd H L (.lst (zs.take i))) { s with heap := h' } := I.turned (t' := s.toks) (fun b o hb e => (sb.2 b hb).trans e) f0 f1 f3 f4 f5
    obtain ⟨z, js, c, rj, hjl, ej⟩ := I1.lstM upd_same
    have tl : (zs.take i).length = i := by rw [List.length_take]; omega
    have jl : js.length = i := by rw [← rj.length, tl]
    show wpAny _ X.A.in1.in1 (updateSeq L (·.push u) >>= _) _ _ _
    have I2 := I1.lset (f := (·.push u)) (its := js) (its' := js ++ [u]) (ys := zs.take (i + 1)) (t' := s.toks) upd_same ej (by simp) (by rw [List.take_add_one, List.getElem?_eq_getElem hlt]; exact rj.append (.cons ru .nil)) (by rw [List.length_take, sizeLine_eq]; omega)
    rw [upd_upd] at I2
    refine wpAny_bind (wpAny_updateSeq ej rfl (wpAny_pure ⟨plainId_quiet PySem.F.plain_extend_loop _, ih (i + 1) _ (by omega) hlt I2 ?_⟩) (by rw [List.size_toArray, jl, sizeLine_eq]; omega) (by show (js.toArray.push u).size ≤ sizeLine + 1; rw [Array.size_push, List.size_toArray, jl, sizeLine_eq]; omega))
    exact st'.at fun o e => (Heap.get?_update_other _ _ (Ne.symm hit)).trans e
def rListO (K : PySem.W.Frag) (C : Addr) (f : Str) (sp : Sp) : List V → Hp → VK → Prop := fun xs H Q => ∃ (p dx t : Addr) (fs : List (Str × V)) (zs : List V), xs = [.ref p] ∧ H p = some (.ins C dx fs) ∧ fs.lookup f = some (.ref t) ∧ SqT K H t zs ∧ zs.length ≤ 1000 ∧
  (∀ G, (∀ b o, H b = some o → G b = some o) → sp [.ref p] G (fun v G' => G' = G ∧ ∃ n : Nat, v = .int (n : Int) ∧ n ≤ 1000) E0) ∧ ∀ q, H q = none → Q (.ref q) (upd H q (.lst zs))
theorem call_listO {f : Str} (hc : X.calm = true) (ci : ItM X.prog X.w X.K X.mg X.base C f k) (cl : OwM X.prog X.w X.K X.mg X.base CX0 C "__len__" k ps sp) (hr : Room (k + 3) X.A) : CallR X (.type "list") (rListO X.K C f sp) := by
  intro pins s σ H xs us Q I rv h
  obtain ⟨p, dx, t, fs, zs, rfl, hp, hl, hz, hzl, hsp, q⟩ := h
  obtain ⟨u, rfl, ru⟩ := rv.one
  cases ru
  have sb : Sub X (k + 1) X.A.in1.in1 := Sub.in1 (Sub.in1 (sub_self hr))
  refine callType_codes (Q₁ := fun obj s1 => obj = .ref s.heap.objs.size ∧ s1 = { s with heap := s.heap.push { cls := .type "list", data := .seq #[] } }) PySem.F.called_list (PySem.F.typeCall_list_1 _) PySem.F.entry_list_init (code_list_new _ ⟨rfl, rfl⟩) fun obj s1 h1 => ?_
  obtain ⟨rfl, rfl⟩ := h1
  have hS : (s.heap.push { cls := .type "list", data := .seq #[] }).get? s.heap.objs.size = some { cls := .type "list", data := .seq #[] } := Heap.get?_push_size _ rfl
  refine ⟨⟨_, hS, rfl⟩, PySem.F.args_list_init_2 _ _, ?_⟩
  have fr : H s.heap.objs.size = none := I.hok.fresh (Nat.le_refl _)
  have I1 : Inv X pins σ (upd H s.heap.objs.size (.lst [])) { s with heap := s.heap.push { cls := .type "list", data := .seq #[] } } := I.lnew (its := []) (t' := s.toks) .nil (Nat.zero_le _)
  have q2 := q _ fr
  have sm : Same H (upd H s.heap.objs.size (.lst [])) := same_new fr
  generalize hLd : s.heap.objs.size = L at hS fr I1 q2 sm ⊢
  show wpAny _ _ (do let old ← Builtin.List.listItems (.ref L); Builtin.List.listUpdate (.ref L) (fun _ => #[]); letGo old.toList.reverse; Builtin.List.listExtendWith (.ref L) (.ref p) .none) _ _ _
  refine wpAny_bind ?_
  unfold Builtin.List.listItems
  refine wpAny_bind (wpAny_seqItems hS rfl (wpAny_pure ?_))
  show wpAny _ _ (updateSeq L (fun _ => #[]) >>= fun _ => letGo (#[] : Array Value).toList.reverse >>= fun _ => Builtin.List.listExtendWith (.ref L) (.ref p) .none) _ _ _
  refine wpAny_bind (wpAny_updateSeq hS rfl ?_)
  have I2 := I1.lset (f := fun _ => #[]) (its := []) (its' := []) (ys := []) (t' := s.toks) upd_same hS rfl .nil (Nat.zero_le _)
  rw [upd_upd] at I2
  refine wpAny_bind (wpAny_letGo ?_)
  have hp2 := sm _ _ hp
  have hz2 := Bx.Same.tup sm hz
  have hsp2 := hsp _ sm
  have hL2 : upd H L (.lst []) L = some (.lst []) := upd_same
  have hne : L ≠ p := fun z => by rw [← z, fr] at hp; cases hp
  have fin : ∀ s', Inv X pins σ (upd (upd H L (.lst [])) L (.lst zs)) s' → EP X pins σ Q (.ref L) s' := fun s' I' => by
    rw [upd_upd] at I'
    exact ⟨.ref L, _, I', rfl, q2⟩
  clear q2 q hsp I1 I hS
  obtain ⟨mA, J, _⟩ := ins_get I2.hok hp2
  obtain ⟨od, J, _⟩ := J.look
  unfold Builtin.List.listExtendWith
  refine wpAny_bind (J.type.here ?_)
  have e1 : Builtin.List.listSameRef (.ref L) (.ref p) = false := by simp [Builtin.List.listSameRef, hne]
  have e2 : (Value.ref C == Value.type "list") = false := rfl
  have e3 : (Value.ref C == Value.type "tuple") = false := rfl
  simp only [e1, e2, e3, Bool.or_false, Bool.false_eq_true, if_false]
  refine wpAny_bind (iter_at (sb.mono (Nat.le_succ _)) ci I2 hp2 hl hz2 fun it s2 I3 hit fp => ?_)
  obtain ⟨oi, hoi, hci, hdi⟩ := id hit
  have Ip := I3.pinned (fp := [it]) (fun b hb => by rw [List.mem_singleton.mp hb]; exact fp) (fun b hb => by rw [List.mem_singleton.mp hb]; exact ⟨oi, hoi, fun v z => by rw [hdi] at z; cases z⟩)
  refine wpAny_bind (wpAny_holding (hint_own sb cl Ip hp2 hsp2 fun b s3 I4 => ?_))
  have hit3 : s3.heap.IsTupleIter it t 0 := hit.at fun o e => (I4.pin (it, o) (List.mem_append_right _ (List.mem_append_right _ (mem_pinsAt List.mem_cons_self e)))).1
  have I5 := I4.unpinned
  have run : ∀ s5, Inv X pins σ (upd (upd H L (.lst [])) L (.lst (zs.take 0))) s5 → s5.heap.IsTupleIter it t 0 → codeAny (model X.prog X.w) X.A.in1 (.builtin "list.extend.loop" ⟨[.ref L, .ref it, .none], []⟩) (wants (fun r s6 => r = .none ∧ EP X pins σ Q (.ref L) s6) X.xe) s5 := fun s5 J5 st5 =>
    ext_loop hc hL2 hz2 hzl fp (fun s6 J6 => ⟨rfl, fin s6 J6⟩) _ 0 s5 rfl (Nat.zero_le _) J5 st5
  have hH : upd (upd H L (.lst [])) L (.lst (zs.take 0)) = upd H L (.lst []) := upd_upd
  rw [hH] at run
  have hneL : it ≠ L := fun z => by
    have := fp.1
    rw [z, hL2] at this
    cases this
  refine wpAny_ite_split (fun _ => wpAny_bind (wpAny_rule (wpAny_bind ?_))) (fun _ => wpAny_pure ⟨plainId_quiet PySem.F.plain_extend_loop _, run s3 I5 hit3⟩)
  obtain ⟨z1, j1, c1, r1, l1, w1⟩ := I5.lstM hL2
  cases r1
  show wpAny _ _ (updateSeq L (·.push .none) >>= fun _ => updateSeq L (·.pop)) _ _ s3
  have K1 := I5.lset (f := (·.push Value.none)) (its' := [Value.none]) (ys := [.non]) (t' := s3.toks) hL2 w1 (by simp) (.cons rfl .nil) (by rw [sizeLine_eq]; decide)
  refine wpAny_bind (wpAny_updateSeq w1 rfl ?_)
  obtain ⟨z2, j2, c2, r2, l2, w2⟩ := K1.lstM upd_same
  obtain ⟨u2, rfl, _⟩ := r2.one
  have K2 := K1.lset (f := (·.pop)) (its := [u2]) (its' := []) (ys := []) (t' := s3.toks) upd_same w2 rfl .nil (Nat.zero_le _)
  rw [upd_upd, upd_upd] at K2
  refine wpAny_updateSeq w2 rfl (wpAny_pure ⟨plainId_quiet PySem.F.plain_extend_loop _, run _ K2 ?_⟩) (by show 1 ≤ sizeLine; rw [sizeLine_eq]; decide) (Nat.zero_le _)
  exact hit3.at fun o e => (Heap.get?_update_other _ _ (Ne.symm hneL)).trans ((Heap.get?_update_other _ _ (Ne.symm hneL)).trans e)
end
end Px
/-! o.m(..) where a method that may raise does not; C.m(..) of a classmethod. -/
namespace Px
open PySem PySem.Spec PyProof.Rows L2 Bx TL Dx Zx Ow
structure CmC (P : Program) (w : World) (K : PySem.W.Frag) (mg : Str → Option Value) (base : Heap) (C : Addr) (m : Str) (k : Nat) (sp : Sp) : Prop where
  ex : ∃ (mc : Value) (p g : Addr), ClX.CRead K C mc ∧ ClX.CMet K C mc m p g ∧ FnR P w K mg base CX0 k g sp
section
variable {X : Cx} {k : Nat} {ps : List Str} {sp : Sp} {o e : Expr} {es : List Expr} {t : TA} {apos pos : Pos} {C : Addr} {m : Str} {to : TE} {pl : Sem Bool}
theorem pe_mthN (c : MthX X.prog X.w X.K X.mg X.base C m k ps sp) (hr : Room k X.A) (ho : PE X o to) (ha : PA X (e :: es) t)
    (hst : starEach (e :: es) X.env = (false, eval e X.env) :: starEach es X.env := by rfl) (hpl : (backTo pos (starEach es X.env)).any (·.1) = false := by rfl)
    (ht : eval (.Call (.Attribute o m apos) (e :: es) [] pos) X.env = (do
      let ov ← eval o X.env
      standAt apos.atName
      let (f, first) ← holding [ov] (getMethod ov m pl)
      callWith pos f first (backTo pos (starEach (e :: es) X.env)) (backToKw pos (keywordEach [] X.env))) := by rfl) : PE X (.Call (.Attribute o m apos) (e :: es) [] pos) (tMeth C m sp [] E0 to t) := by
  obtain ⟨f, fd, cl, mt, ok, b⟩ := c.ex
  exact pe_meth (E := E0) ho cl mt ok hr b .nil passN ha hst hpl ht
theorem pe_cme (c : CmC X.prog X.w X.K X.mg X.base C m k sp) (hr : Room k X.A) (ho : PE X o to) (ha : PA X (e :: es) t)
    (hst : starEach (e :: es) X.env = (false, eval e X.env) :: starEach es X.env := by rfl) (hpl : (backTo pos (starEach es X.env)).any (·.1) = false := by rfl)
    (ht : eval (.Call (.Attribute o m apos) (e :: es) [] pos) X.env = (do
      let ov ← eval o X.env
      standAt apos.atName
      let (f, first) ← holding [ov] (getMethod ov m pl)
      callWith pos f first (backTo pos (starEach (e :: es) X.env)) (backToKw pos (keywordEach [] X.env))) := by rfl) : PE X (.Call (.Attribute o m apos) (e :: es) [] pos) (ClX.tCMeth C sp E0 to t) := by
  obtain ⟨mc, p, g, r, cm, F⟩ := c.ex
  exact ClX.pe_cmeth ho r cm F hr L2.pass0 ha hst hpl ht
/-- a property by its promise -/
structure PropC (P : Program) (w : World) (K : PySem.W.Frag) (mg : Str → Option Value) (base : Heap) (C : Addr) (m : Str) (k : Nat) (sp : Sp) : Prop where
  cl : Cls K C
  ex : ∃ (p g : Addr) (fd : FuncData), PropOf K C m p g ∧ FnOk P w K mg base CX0 k g fd ["self"] sp ∧ Binds K fd ["self"] []
theorem pe_propC {ta : TE} (c : PropC X.prog X.w X.K X.mg X.base C m k sp) (hr : Room (k + 1) X.A) (he : PE X e ta) (hab : attributeBase e m X.env (eval e X.env) = eval e X.env) : PE X (.Attribute e m pos) (tProp C sp [] E0 ta) := by
  obtain ⟨p, g, fd, hp, F, hb⟩ := c.ex
  exact pe_prop he c.cl hp F hr hb .nil L2.pass0 hab
end
end Px
/-! dicts whose keys are tuples: made by a comprehension. -/
namespace Dt
open PySem PySem.Spec PyProof.Rows L2 Bx TL Dx Zx
/-- the store of such a comprehension -/
theorem put_in {X : Cx} {pins : List (Addr × Obj)} {σ : L2.St} {H : Hp} {s : Shared} {E : Value → Shared → Prop} {D b : Addr} {kvs : List (List Key × V)} {k : List Key} {v : V} {r : Value} {Q : Unit → Shared → Prop} (hu : X.A.units < cLine) (J : Inv X pins σ H s) (hD : H D = some (.dT kvs)) (hl : kvs.length < sizeLine)
    (hb : H b = some (.tup (k.map kV))) (rv : RelV v r) (q : ∀ s', Inv X pins σ (upd H D (.dT (putK kvs k v))) s' → Q () s') : wpAny (model X.prog X.w) X.A (dictSet D (.ref b) r) Q E s := by
  obtain ⟨_, ns, xs, rel, dd⟩ := dt_of J.hok hD
  have small : xs.length ≤ sizeLine := by
    have := Paired.length rel
    omega
  have after : (putK kvs k v).length ≤ sizeLine := by
    have := length_putK kvs k v
    omega
  refine wpAny_dictSet_heap (hsz := small) hu (key_of J.hok hb) dd fun g dg sb => q _ ?_
  obtain ⟨ob, es, ep, ho, x2, x3, x4, _, x5⟩ := dg
  refine d_write J (by rw [hD]; exact True.intro) sb ⟨ob, ho⟩ ⟨after, ns, _, (rel.put k hb rv).keeps fun c ys e => ?_, ob, es, ep, ho, x2, x3, x4, x5⟩
  rw [upd_ne (ne_of e hD fun z => nomatch z)]
  exact e
end Dt
namespace Dt
open PySem PySem.Spec PyProof.Rows L2 Bx TL Dx Zx
section
variable {X : Cx}
/-- {k: v for target in iter if ..}, the keys tuples of ints and texts -/
def tDcT (wi : TI) (g : TG) (tt : TT) (tk tv : TE) (vs : List Nat) : TE := fun σ H Q => wi σ H fun J H1 => ∀ D, H1 D = none → ∃ W : Nat → Nat → Hp → Prop, (∃ m, W 0 m (upd H1 D (.dT []))) ∧ ∀ i m H, W i m H →
  (J.stop i H ∧ Q (.ref D) H) ∨ (J.go i H ∧ ∃ Nx : Hp → Prop, (∀ H', Nx H' → ∃ m', m' < m ∧ W (i + 1) m' H') ∧ ∀ x H', J.yld i H x H' → g x (wipe σ vs) H' fun σ2 H2 => wipe σ2 vs = wipe σ vs ∧ tt σ2 H2 fun b H3 =>
    if b = true then tk σ2 H3 fun y H4 => tv σ2 H4 fun z H5 => ∃ a kvs k, y = .ref a ∧ H5 a = some (.tup (k.map kV)) ∧ H5 D = some (.dT kvs) ∧ kvs.length < sizeLine ∧ Nx (upd H5 D (.dT (putK kvs k z))) else Nx H3)
end
end Dt
namespace Dt
open PySem PySem.Spec PyProof.Rows L2 Bx TL Dx Zx
section
variable {X : Cx}
/-- what holds between the turns: the block's slots are bare, the iterator stands at i, the measure is n -/
def Between (Y : Cx) (fp : List Addr) (tn : Nat → Heap → Prop) (W : Nat → Nat → Hp → Prop) (τ : L2.St) (n : Nat) (z : Shared) : Prop := ∃ i G, Inv Y [] τ G z ∧ tn i z.heap ∧ (∀ b ∈ fp, G b = none) ∧ W i n G
theorem dct_core {pins : List (Addr × Obj)} {s : Shared} {σ : L2.St} {H : Hp} {Q : VK} {kx vx tg iter : Expr} {ifs : List Expr} {scope : Scope} {own : List (Str × Nat)} {pos pos' : Pos} {wi : TI} {g : TG} {tt : TT} {tk tv : TE} {use : Option (Value → Sem Unit)} {Qf : Value → Shared → Prop}
    (hu : X.A.units < cLine) (calm : X.calm = true) (nod : X.N.Nodup) (J : Inv X pins σ H s) (walk : PI X tg iter wi) (ok : BlkOk X.N X.env.scope scope own)
    (pg : ∀ (z : Shared) (G : Hp) (C : Addr) (cl : List (Str × Addr)) (fp : List Addr), PG (X.blk z G scope (compEnvC scope cl C X.env) fp) tg g) (pt : ∀ (z : Shared) (G : Hp) (C : Addr) (cl : List (Str × Addr)) (fp : List Addr), PTs (X.blk z G scope (compEnvC scope cl C X.env) fp) ifs tt)
    (pk : ∀ (z : Shared) (G : Hp) (C : Addr) (cl : List (Str × Addr)) (fp : List Addr), PE (X.blk z G scope (compEnvC scope cl C X.env) fp) kx tk) (pv : ∀ (z : Shared) (G : Hp) (C : Addr) (cl : List (Str × Addr)) (fp : List Addr), PE (X.blk z G scope (compEnvC scope cl C X.env) fp) vx tv)
    (fold : ∀ x, foldedSetIterable iter X.env x = pure x) (want : tDcT wi g tt tk tv (own.map (·.2)) σ H Q)
    (back : ∀ D C z m G, Inv X pins σ G z → Q (.ref D) G → z.heap.Ns C m → FpOk X pins G C → compPost (model X.prog X.w) X.A X.xe use Qf (.ref D) C (.ok .next) z) :
    wpAny (model X.prog X.w) X.A (comprehension (.DictComp kx vx [⟨tg, iter, ifs, 0⟩] scope pos) scope X.env pos' newDict false (eval iter X.env) use) Qf X.xe s := by
  have free : ∀ y ∈ scope.names, y.2 = .free → ∃ c, X.env.cells.lookup y.1 = some c := fun y m e => (ok.free y m e).elim (fun k => J.ok.has _ (.inl k)) fun k => J.ok.has _ (.inr k)
  have names : ∀ y ∈ scope.names, y.2 = .local → scope.names.lookup y.1 = some .local := fun y m e => by
    have := ok.uniq y m
    rw [e] at this
    exact this
  refine wpAny_comprehension_free (use := use) rfl fold (closure_ok free) ok.kind names (thn (walk.run pins s σ H _ J want) fun first z1 got => thn got fun itv z2 ready => ?_)
  obtain ⟨it, fp, tn, I0, G2, rfl, J2, T, at0, out2, q⟩ := ready
  refine wpAny_newObj_type (newEnv_comp ?_)
  have bare : G2 z2.heap.objs.size = none := J2.hok.fresh (Nat.le_refl _)
  obtain ⟨W, ⟨n0, start⟩, turn⟩ := q _ bare
  have lo : ∀ b ∈ fp, b < z2.heap.objs.size := fun b m => by
    obtain ⟨u, hu2, _⟩ := T.obj _ _ at0 b m
    exact Heap.lt_size hu2
  have J3 : Inv X pins σ (upd G2 z2.heap.objs.size (.dT [])) { z2 with heap := z2.heap.push { cls := .type "dict", data := .dict #[] } } :=
    J2.laid (t' := z2.toks) (fun b o e => Heap.get?_push_of_some _ e) (Nat.le_refl _) (dt_empty z2.heap J2.big)
  have out3 : ∀ b ∈ fp, FpOk X pins (upd G2 z2.heap.objs.size (.dT [])) b ∧ b < (z2.heap.push { cls := .type "dict", data := .dict #[] }).objs.size := fun b m => by
    have l := lo b m
    refine ⟨⟨?_, (out2 b m).2⟩, ?_⟩
    · rw [upd_ne (Nat.ne_of_lt l)]
      exact (out2 b m).1
    · rw [Heap.size_push]
      exact Nat.lt_succ_of_lt l
  have at3 : tn 0 (z2.heap.push { cls := .type "dict", data := .dict #[] }) := T.keep _ _ _ at0 fun b _ o e => Heap.get?_push_of_some _ e
  generalize hD : z2.heap.objs.size = D at *
  generalize hz3 : ({ z2 with heap := z2.heap.push { cls := .type "dict", data := .dict #[] } } : Shared) = z3 at *
  have e3 : z3.heap = z2.heap.push { cls := .type "dict", data := .dict #[] } := by rw [← hz3]
  rw [← e3] at out3 at3
  have J4 := block_start J3 ok nod out3
  have bare3 : ∀ b ∈ fp, (upd G2 D (.dT [])) b = none := fun b m => (out3 b m).1.1
  generalize upd G2 D (.dT []) = G3 at J3 J4 bare3 out3 start
  generalize hcl : cellsFrom (z3.heap.objs.size + 1) scope.names (cloFrom X.env.cells scope.names []) = cl at J4 ⊢
  generalize hC : z3.heap.objs.size = C at *
  have g1 := pg z3 G3 C cl fp
  have g2 := pt z3 G3 C cl fp
  have g3 := pk z3 G3 C cl fp
  have g4 := pv z3 G3 C cl fp
  show codeAny _ _ (.compStart (.DictComp kx vx [⟨tg, iter, ifs, 0⟩] scope pos) 0 (.ref it) (.ref D) (compEnvC scope cl C X.env)) (compPost (model X.prog X.w) X.A X.xe use Qf (.ref D) C) { z3 with heap := pushCells (z3.heap.push { cls := .type "dict", data := .dict #[] }) scope.names }
  have at4 : tn 0 (pushCells (z3.heap.push { cls := .type "dict", data := .dict #[] }) scope.names) := T.keep _ _ _ at3 fun b _ o e => pushCells_keeps _ _ _ _ (Heap.get?_push_of_some _ e)
  generalize hz4 : ({ z3 with heap := pushCells (z3.heap.push { cls := .type "dict", data := .dict #[] }) scope.names } : Shared) = z4 at J4 ⊢
  have at4' : tn 0 z4.heap := by
    rw [← hz4]
    exact at4
  have cloc : (compEnvC scope cl C X.env).locals = C := rfl
  generalize compEnvC scope cl C X.env = ce at J4 g1 g2 g3 g4 cloc ⊢
  have stays : ∀ {τ : L2.St} {G : Hp} {z : Shared}, Inv (X.blk z3 G3 scope ce fp) [] τ G z → (∀ b ∈ fp, G b = none) → ∀ b ∈ fp, FpOk (X.blk z3 G3 scope ce fp) [] G b := fun J' hn b m =>
    ⟨hn b m, (J'.ok.exf b m).1, J'.ok.exfs b m, .inl m, fun x c e => (J'.ok.exf b m).2 x c e, fun p hp => absurd (show p ∈ ([] : List (Addr × Obj)) ++ [] from hp) (by simp)⟩
  have loop : codeAny (model X.prog X.w) X.A (.compLoop (.DictComp kx vx [⟨tg, iter, ifs, 0⟩] scope pos) 0 (.ref it) (.ref D) ce) (compPost (model X.prog X.w) X.A X.xe use Qf (.ref D) C) z4 := by
    refine compLoop_anyD (fun n z => Between (X.blk z3 G3 scope ce fp) fp tn W (wipe σ (own.map (·.2))) n z) (fun n z5 h5 => ?_) n0 ⟨0, G3, J4, at4', bare3, start⟩
    obtain ⟨i, G5, J5, at5, bare5, w5⟩ := h5
    rcases turn i n G5 w5 with ⟨stop, fin⟩ | ⟨go, Nx, less, step⟩
    · have over := T.done (X.blk z3 G3 scope ce fp) rfl rfl rfl calm i [] z5 _ G5 (fun _ _ => False) J5 (stays J5 bare5) at5 stop
      refine thnF over fun r z6 ⟨none_, J6⟩ => ?_
      subst none_
      have home : Inv X pins σ G5 z6 := J3.call' (ch := fp) J6.os J6.base J6.hok J6.bare fun b m => ⟨(out3 b m).1.2.2.2.1, (out3 b m).1.2.1, (out3 b m).1.2.2.2.2.1, (out3 b m).1.2.2.2.2.2⟩
      have noC : G5 C = none := by
        have f : G5 ce.locals = none := J6.free
        rwa [cloc] at f
      obtain ⟨m, ns, _⟩ := J6.loc
      have ns2 : z6.heap.Ns ce.locals m := ns
      rw [cloc] at ns2
      exact back D C z6 m G5 home fin ns2 (J3.fpOk (Nat.le_of_eq hC) noC)
    · have one := T.item (X.blk z3 G3 scope ce fp) rfl rfl rfl calm i [] z5 _ G5 (fun _ _ => False) J5 (stays J5 bare5) at5 go
      refine thnF one fun r z6 ⟨u, some_, h6⟩ => ?_
      subst some_
      refine thnF h6 fun _ z7 ⟨x, G7, J7, rx, y7, at7, bare7⟩ => ?_
      have J7p := J7.pinned (stays J7 bare7) (T.obj _ _ at7)
      refine thnF (g1.run _ z7 _ G7 x u _ J7p rx (step x G7 y7)) fun _ z8 ⟨σ8, G8, J8, clean, q8⟩ => ?_
      refine thnF (g2.run _ z8 σ8 G8 _ J8 q8) fun b z9 ⟨G9, J9, q9⟩ => ?_
      have next : ∀ {z : Shared} {G : Hp}, Inv (X.blk z3 G3 scope ce fp) ([] ++ pinsAt fp z7.heap) σ8 G z → Nx G → ∃ m, m < n ∧ Between (X.blk z3 G3 scope ce fp) fp tn W (wipe σ (own.map (·.2))) m z := fun {z G} J' nx => by
        obtain ⟨m, lt, w'⟩ := less G nx
        have held : ∀ b ∈ fp, ∀ o, z7.heap.get? b = some o → z.heap.get? b = some o ∧ G b = none := fun b m o e =>
          have k := J'.pin (b, o) (List.mem_append_right _ (List.mem_append_right _ (mem_pinsAt m e)))
          ⟨k.1, k.2.1⟩
        have long : (wipe σ (own.map (·.2))).length = σ8.length := by rw [← clean, wipe_length]
        refine ⟨m, lt, i + 1, G, (J'.unpinned (pins := [])).weak long (fun j v e => ?_), T.keep _ _ _ at7 fun b m o e => (held b m o e).1, fun b m => ?_, w'⟩
        · rw [← clean] at e
          exact (wipe_some e).1
        · obtain ⟨o, e, _⟩ := T.obj _ _ at7 b m
          exact (held b m o e).2
      cases b with
      | false =>
        simp only [Bool.false_eq_true, if_false] at q9 ⊢
        exact next J9 q9
      | true =>
        simp only [if_true] at q9 ⊢
        refine thnF (g3.run _ z9 σ8 G9 _ J9 q9) fun kv z10 ⟨y, G10, J10, ry, q10⟩ => ?_
        refine thnF (g4.run _ z10 σ8 G10 _ J10 q10) fun vv z11 ⟨v, G11, J11, rv, a, kvs, k, ey, ha, hd, small, nx⟩ => ?_
        subst ey
        cases ry
        exact put_in (X := X.blk z3 G3 scope ce fp) hu J11 hd small ha rv fun z12 J12 => next J12 nx
  exact codeAny_compStart_dict loop (T.self X.A 0 _ _ _ at4' loop)
end
end Dt
namespace Dt
open PySem PySem.Spec PyProof.Rows L2 Bx TL Dx Zx
section
variable {X : Cx}
/-- name = {k: v for ..}, the keys tuples -/
theorem ps_setDcT {i : Nat} {y : Str} {py : Pos} {kx vx tg iter : Expr} {ifs : List Expr} {scope : Scope} {own : List (Str × Nat)} {pos spos : Pos} {wi : TI} {g : TG} {tt : TT} {tk tv : TE} (hu : X.A.units < cLine) (hc : X.calm = true) (hN : X.N.Nodup) (hy : X.N[i]? = some y) (hyl : X.env.scope.names.lookup y = some .local)
    (hsw : swapsWith (.DictComp kx vx [⟨tg, iter, ifs, 0⟩] scope pos) (some (.Name y py)) spos.line X.env = pure true) (hi : PI X tg iter wi) (ok : BlkOk X.N X.env.scope scope own)
    (hg : ∀ (s : Shared) (H : Hp) (C : Addr) (cl : List (Str × Addr)) (fp : List Addr), PG (X.blk s H scope (compEnvC scope cl C X.env) fp) tg g) (ht : ∀ (s : Shared) (H : Hp) (C : Addr) (cl : List (Str × Addr)) (fp : List Addr), PTs (X.blk s H scope (compEnvC scope cl C X.env) fp) ifs tt)
    (hk : ∀ (s : Shared) (H : Hp) (C : Addr) (cl : List (Str × Addr)) (fp : List Addr), PE (X.blk s H scope (compEnvC scope cl C X.env) fp) kx tk)
    (he : ∀ (s : Shared) (H : Hp) (C : Addr) (cl : List (Str × Addr)) (fp : List Addr), PE (X.blk s H scope (compEnvC scope cl C X.env) fp) vx tv) (hs : ∀ x, foldedSetIterable iter X.env x = pure x := by intro _; rfl) :
    PS X (.Assign [.Name y py] (.DictComp kx vx [⟨tg, iter, ifs, 0⟩] scope pos) spos) (tAsg (tDcT wi g tt tk tv (own.map (·.2))) (gName i)) := by
  refine ⟨fun pins s σ H D I h => ?_⟩
  rw [exec_Assign_Name_used _ _ _ _ hsw]
  refine wpAny_bind (wpAny_standAt (wpAny_bind ?_))
  show wpAny _ X.A (do let _ ← comprehension (.DictComp kx vx [⟨tg, iter, ifs, 0⟩] scope pos) scope X.env _ newDict false (eval iter X.env) (some (assign (.Name y py) X.env))) _ _ s
  have h : tDcT wi g tt tk tv (own.map (·.2)) σ H (fun x H1 => gName i x σ H1 D.nx) := h
  refine wpAny_bind (thn (dct_core (Qf := fun _ s' => SP X pins D .next s') hu hc hN I hi ok hg ht hk he hs h fun L C s' m H' I' q hn f => ?_) fun _ s' hq => wpAny_pure (wpAny_pure hq))
  show wpAny _ _ (assign (.Name y py) X.env (.ref L)) _ _ _
  refine wpAny_assign_Name (store_ok2 (v := V.ref L) I' hN hy (.inl hyl) rfl (fun s2 I2 ⟨a, sb, ha⟩ => ?_) (.inr hyl))
  obtain ⟨f0, f1, f2, f3, f4, f5⟩ := f
  have haC : C ≠ a := by
    rcases ha with z | z
    · rw [z]; exact f1
    · exact fun e => f4 y a z e.symm
  refine ⟨m, hn.sameBut sb haC, fun h3 sb3 => ?_⟩
  exact ⟨_, H', I2.turned (t' := s2.toks) (fun b o hb e => (sb3.2 b hb).trans e) f0 f1 f3 f4 f5, q⟩
end
/-- over a walk -/
theorem dct_it {J : It} {n : Nat} {G : Hp → Prop} {Y : Nat → Hp → V → Hp → Prop} (w : Walk J n G Y) {g : TG} {tt : TT} {tk tv : TE} {vs : List Nat} {σ : L2.St} {H1 : Hp} {D : Addr} {Qd : Hp → Prop} (Pv : Nat → Hp → Prop) (h0 : Pv 0 (upd H1 D (.dT []))) (hG : ∀ i H, i ≤ n → Pv i H → G H)
    (hs : ∀ i x H H', i < n → Pv i H → Y i H x H' → g x (wipe σ vs) H' fun σ2 H2 => wipe σ2 vs = wipe σ vs ∧ tt σ2 H2 fun b H3 =>
      if b = true then tk σ2 H3 fun y H4 => tv σ2 H4 fun z H5 => ∃ a kvs k, y = .ref a ∧ H5 a = some (.tup (k.map kV)) ∧ H5 D = some (.dT kvs) ∧ kvs.length < sizeLine ∧ Pv (i + 1) (upd H5 D (.dT (putK kvs k z))) else Pv (i + 1) H3) (hd : ∀ H, Pv n H → Qd H) :
    ∃ W : Nat → Nat → Hp → Prop, (∃ m, W 0 m (upd H1 D (.dT []))) ∧ ∀ i m H, W i m H →
      (J.stop i H ∧ Qd H) ∨ (J.go i H ∧ ∃ Nx : Hp → Prop, (∀ H', Nx H' → ∃ m', m' < m ∧ W (i + 1) m' H') ∧ ∀ x H', J.yld i H x H' → g x (wipe σ vs) H' fun σ2 H2 => wipe σ2 vs = wipe σ vs ∧ tt σ2 H2 fun b H3 =>
        if b = true then tk σ2 H3 fun y H4 => tv σ2 H4 fun z H5 => ∃ a kvs k, y = .ref a ∧ H5 a = some (.tup (k.map kV)) ∧ H5 D = some (.dT kvs) ∧ kvs.length < sizeLine ∧ Nx (upd H5 D (.dT (putK kvs k z))) else Nx H3) :=
  walk_any (B := fun (Nx : Hp → Prop) x H' => g x (wipe σ vs) H' fun σ2 H2 => wipe σ2 vs = wipe σ vs ∧ tt σ2 H2 fun b H3 =>
        if b = true then tk σ2 H3 fun y H4 => tv σ2 H4 fun z H5 => ∃ a kvs k, y = .ref a ∧ H5 a = some (.tup (k.map kV)) ∧ H5 D = some (.dT kvs) ∧ kvs.length < sizeLine ∧ Nx (upd H5 D (.dT (putK kvs k z))) else Nx H3) w Pv h0 hG hs hd
end Dt
namespace Dt
open PySem PySem.Spec PyProof.Rows L2
/-- e.f within a block: the written part is named -/
theorem pe_fldK {X : Cx} {K : PySem.W.Frag} {e : Expr} {f : Str} {pos : Pos} {ta : TE} (h : X.K = K) (he : PE X e ta) (hb : attributeBase e f X.env (eval e X.env) = eval e X.env) : PE X (.Attribute e f pos) (tFld K ta f) := by
  subst h
  exact pe_fld he hb
end Dt
/-! a comprehension within another one's block -/
namespace Nx
open PySem PySem.Spec PyProof.Rows L2
theorem rel_eq {scope : Scope} {env : Env} {sc : Scope} (h : env.scope = sc) : relabel scope env = relS scope sc := by
  subst h
  rfl
theorem blkOk_nest {N : List Str} {sc scope1 scope : Scope} {cl : List (Str × Addr)} {C : Addr} {env : Env} {own : List (Str × Nat)} (he : env.scope = sc) (h : blkC N (relS scope1 sc) scope own = true) : BlkOk N (compEnvC scope1 cl C env).scope scope own := by
  have e : (compEnvC scope1 cl C env).scope = relS scope1 sc := rel_eq he
  rw [e]
  exact blkOk_by h
/-- d.setdefault(t, v), t a tuple of ints and texts -/
def rSetdT : V → List V → Hp → VK → Prop := fun x vs H Q => ∃ (a b : Addr) (kvs : List (List Key × V)) (k : List Key) (v : V), x = .ref a ∧ vs = [.ref b, v] ∧ H a = some (.dT kvs) ∧ H b = some (.tup (k.map kV)) ∧ kvs.length < sizeLine ∧
  (∀ u, valV kvs k = some u → Q u H) ∧ (valV kvs k = none → Q v (upd H a (.dT (putK kvs k v))))
theorem mt_setdT {X : Cx} (hu : X.A.units + 1 < cLine) : MtR X "dict.setdefault" rSetdT := by
  intro pins s σ H x xs v us Q I rx rs q
  obtain ⟨a, b, kvs, k, y, rfl, rfl, ea, eb, hl, w1, w2⟩ := q
  cases rx
  cases rs with
  | cons r1 rs =>
    cases rs with
    | cons r2 rs =>
      cases rs
      cases r1
      obtain ⟨z, hd, xs0, rel, dd⟩ := dt_of I.hok ea
      have hz : xs0.length ≤ sizeLine := by rw [← Paired.length rel]; exact z
      have hl2 : (putK kvs k y).length ≤ sizeLine := by have := length_putK kvs k y; omega
      refine call_setdefault_heap (hsz := hz) (tupleKind_room_in1 hu) (key_of I.hok eb) hd dd (fun p hp => ?_) fun hn h' dd' hs => ?_
      · have rr := rel.val k
        rw [hp] at rr
        cases e : valV kvs k with
        | none =>
          rw [e] at rr
          have := rr.isSome_eq
          cases this
        | some u =>
          rw [e] at rr
          exact ⟨u, H, I.tok _, rr, w1 u e⟩
      · have rr := rel.val k
        rw [hn] at rr
        have e : valV kvs k = none := by
          cases e : valV kvs k with
          | none => rfl
          | some u =>
            rw [e] at rr
            have := rr.isSome_eq
            cases this
        obtain ⟨q, es, ep, hq, h2, h3, h4, _, h5⟩ := dd'
        refine ⟨y, upd H a (.dT (putK kvs k y)), d_write I (by rw [ea]; exact True.intro) hs ⟨q, hq⟩ ⟨hl2, hd, _, (rel.put k eb r2).keeps fun c ys ec => ?_, q, es, ep, hq, h2, h3, h4, h5⟩, r2, w2 e⟩
        rw [upd_ne (ne_of ec ea (fun z => nomatch z))]
        exact ec
end Nx
/-! C() of an own class that has no `__init__`. -/
namespace Mk0
open PySem PySem.Spec PyProof.Rows L2 Ow
structure Bare (K : PySem.W.Frag) (mg : Str → Option Value) (x : Str) (C : Addr) : Prop where
  make : PySem.W.makesIn K C = true
  ini : PySem.W.findIn K (.ref C) "__init__" = some (some (.builtin "object.__init__"))
  kp : PySem.W.keepIn K (.ref C) = true
  g : mg x = some (.ref C)
section
variable {X : Cx} {pins : List (Addr × Obj)} {σ : L2.St} {H : Hp} {s : Shared} {C : Addr} {Q : VK} {x : Str} {p pos : Pos}
def tBare (C : Addr) : TE := fun _ H Q => ∀ y dy, H y = none → H dy = none → dy ≠ y → Q (.ref y) (upd (upd H dy (.own y)) y (.ins C dy []))
theorem run_bare (B : Bare X.K X.mg x C) (I : Inv X pins σ H s) (h : tBare C σ H Q) : wpAny (model X.prog X.w) X.A (call (.ref C) []) (EP X pins σ Q) X.xe s := by
  have hq := h (s.heap.objs.size + 1) s.heap.objs.size (I.hok.fresh (Nat.le_succ _)) (I.hok.fresh (Nat.le_refl _)) (Nat.ne_of_lt (Nat.lt_succ_self _))
  have I2 := Inv.made (C := C) I
  have XK := I.kIn
  obtain ⟨hh, g, d, t, os⟩ := s
  have Y := PySem.W.makes_of (M := model X.prog X.w) XK B.make
  refine wpAny_call (PySem.W.make_core Y (PySem.W.looks_findIn XK B.ini) (fun self => PySem.W.Looks.of_pure (PySem.W.oi_bind self)) (.inr ⟨rfl, rfl⟩) ?_)
  have hx : ((hh.push PySem.W.emptyDict).push (PySem.W.instObj C hh.objs.size)).get? (hh.objs.size + 1) = some (PySem.W.instObj C hh.objs.size) := by
    have := Heap.get?_push_size (hh.push PySem.W.emptyDict) (o := PySem.W.instObj C hh.objs.size) rfl
    rwa [Heap.size_push] at this
  have t1 : PySem.W.Looks (model X.prog X.w) ((hh.push PySem.W.emptyDict).push (PySem.W.instObj C hh.objs.size)) (typeOf (.ref (hh.objs.size + 1))) (.ref C) := (PySem.W.Looks.ld hx).andThen .now
  have t2 : PySem.W.Looks (model X.prog X.w) ((hh.push PySem.W.emptyDict).push (PySem.W.instObj C hh.objs.size)) (isInstance (.ref (hh.objs.size + 1)) (.type "object")) true := t1.andThen (Y.top.keeps fun b o e => Heap.get?_push_of_some _ (Heap.get?_push_of_some _ e))
  refine PySem.codeAny_call_builtin PySem.W.oi_plain PySem.W.entry_oi (@PySem.W.check_slot (model X.prog X.w) _ _ _ "object.__init__" "object" "__init__" (.ref (hh.objs.size + 1)) [] [] _ PySem.W.oi_kind PySem.W.oi_split t2 (PySem.W.oi_args (.ref (hh.objs.size + 1))) ?_)
  rw [PySem.W.oi_run]
  exact wpAny_pure (And.intro rfl ⟨V.ref (hh.objs.size + 1), _, I2, rfl, hq⟩)
theorem pe_bare (B : Bare X.K X.mg x C) (hg : Gl X x := by rfl) (hdb : (x == ("__debug__" : Str)) = false := by decide) : PE X (.Call (.Name x p) [] [] pos) (tBare C) := by
  refine ⟨fun pins s σ H Q I h => ?_⟩
  refine wpAny_Call_Name_kw (ld_glob I hg B.g ?_ hdb)
  exact PySem.W.callWith_K0 I.kIn B.kp (run_bare B I h)
end
end Mk0
/-! super().m(..) in a method of an own class, m a def of the class above: as the value of a `return .. and ..`, or in an `if not ..`. -/
namespace SupM
open PySem PySem.Spec PyProof.Rows L2 NdefX Sup Ow
section
variable {X : Cx} {pins : List (Addr × Obj)} {σ : List (Option V)} {H : Hp} {s : Shared} {self m : Str} {D a C dx g : Addr} {fs : List (Str × V)} {body : List Stmt} {p0 p1 p2 pos pos' : Pos} {e : Expr} {es : List Expr} {ta : TA} {pl : Sem Bool} {k : Nat} {sp : Sp} {Q : VK}
/-- the class above has the def g under the name m -/
structure SupA (K : PySem.W.Frag) (C D : Addr) (m : Str) (g : Addr) : Prop where
  cls : ∃ cd, PySem.W.clsIn K D = some cd
  sub : PySem.W.mroIn K C (.ref D) = some true
  sup : PySem.W.ks_superIn K C D m = some (some (.ref g))
  ty : PySem.W.typeIn K (.ref g) = some (.type "function")
  fn : PySem.W.fnIn K g = true
  nc : (m == ("__class__" : Str)) = false
theorem sup_eval (I : Inv X pins σ H s) (S : SupF X.prog X.K X.mg X.env self D) (T : SupA X.K C D m g) (F : FnR X.prog X.w X.K X.mg X.base CX0 k g sp) (hr : Room k X.A) (hN : X.N[0]? = some self) (h0 : σ[0]? = some (some (.ref a))) (ea : H a = some (.ins C dx fs)) (ha : PA X (e :: es) ta)
    (h : ta σ H fun vs H2 => sp (.ref a :: vs) H2 Q E0)
    (hev : eval (.Call (.Attribute (.Call (.Name "super" p0) [] [] p1) m p2) (e :: es) [] pos) X.env = (do
      let ov ← attributeBase (.Call (.Name "super" p0) [] [] p1) m X.env (eval (.Call (.Name "super" p0) [] [] p1) X.env)
      standAt p2.atName
      let (f, first) ← holding [ov] (getMethod ov m pl)
      callWith pos f first (backTo pos (starEach (e :: es) X.env)) []) := by rfl)
    (he : starEach (e :: es) X.env = (false, eval e X.env) :: starEach es X.env := by rfl) (hpl : (backTo pos (starEach es X.env)).any (·.1) = false := by rfl) :
    _root_.PySem.wpAt (model X.prog X.w) X.A (.func body X.env) (eval (.Call (.Attribute (.Call (.Name "super" p0) [] [] p1) m p2) (e :: es) [] pos) X.env) (EP X pins σ Q) X.xe s := by
  refine ks_wpAt_MethodCall ?_ hev
  obtain ⟨f, oc, od, fd, osl, ar, hfu, lf, hp, har⟩ := S.fn
  obtain ⟨cda, ccl, cdd, vs, ccs, file, tf, hco, lc, hvs, hfile⟩ := S.co
  obtain ⟨cc, cl, cld, csl, hcl, lcc⟩ := S.ce
  obtain ⟨mm, v, hn, hv, rv⟩ := self_at I hN h0 S.ka
  obtain rfl : v = Value.ref a := rv
  obtain ⟨oi, inst⟩ := inst_of I ea
  obtain ⟨cdD, hD⟩ := T.cls
  have XK := I.kIn
  obtain ⟨oD, hD1, hD2⟩ : ∃ oD, s.heap.get? D = some oD ∧ oD.data = .cls cdD := by
    unfold PySem.W.clsIn at hD
    split at hD
    · rename_i c d cd' sl ho
      cases hD
      exact ⟨_, XK _ _ ho, rfl⟩
    · cases hD
  refine ks_wpAt_super_base S.ks S.kc T.nc hfu (XK _ _ lf) rfl hp hco (XK _ _ lc) rfl hvs hfile S.top ?_
  refine ld_super I S ⟨rfl, ?_⟩
  refine wpAny_loadName_free I.ok.kind S.kc hcl ⟨_, XK _ _ lcc, rfl⟩ ?_
  refine wpAny_loadName_local I.ok.kind (har ▸ S.ka) hn (har ▸ hv) ?_
  refine ks_wpAny_isType_cls hD1 hD2 ⟨rfl, ?_⟩
  obtain ⟨hp0, gg, d, t, os⟩ := s
  refine ks_wpAny_call_super hD1 hD2 inst.at_ rfl (fun c e => by cases e) (PySem.W.looks_mroIn XK T.sub) fun h' eso k2 => ?_
  have I2 : Inv X pins σ H ⟨h', gg, d, t, os⟩ := I.kept (t' := t) k2
  have XK2 := I2.kIn
  have sup := T.sup
  unfold PySem.W.ks_superIn at sup
  cases hc : PySem.W.clsIn X.K C with
  | none =>
    rw [hc] at sup
    cases sup
  | some cd =>
    rw [hc] at sup
    obtain ⟨oi2, inst2⟩ := inst_of I2 ea
    obtain ⟨of, hof, hofc⟩ : ∃ of, h'.get? g = some of ∧ of.cls = .type "function" := by
      have ht' : (X.K.lookup g).map (·.cls) = some (.type "function") := T.ty
      cases z : X.K.lookup g with
      | none => rw [z] at ht'; cases ht'
      | some of => rw [z] at ht'; exact ⟨of, XK2 _ _ z, Option.some.inj ht'⟩
    refine ks_wpAny_getMethod_super eso (PySem.W.looks_opaque XK2 S.any) (l₀ := cd.mro) ?_ rfl XK2 sup hof hofc (PySem.W.ks_ne XK2 inst2 hc) T.nc ?_
    · exact fun A Q E s k q => wpAny_bind ((PySem.W.looks_clsIn XK2 hc) A _ E s k (wpAny_pure q))
    · have I3 := ClX.met_new (g := g) (C := a) I2
      refine ClX.callwith_cm I3 (ClX.base_none I2 (Nat.le_refl _)) T.fn (thn (ha.run pos _ _ σ H _ I3 h) fun us s3 ⟨vs, H2, I4, rv, q2⟩ => ⟨⟨ClX.pin_at I4, I4.kIn⟩, ?_⟩) he hpl
      exact ClX.run_cm F hr L2.pass0 I4 rv q2
end
/-! ### expressions, tests, statements that know the body they stand in -/
section
variable {M : Model} {A : Around} {c : Code} {E : Value → Shared → Prop} {s : Shared} {env : Env}
theorem at_and {e₁ e₂ : Expr} {rest : List Expr} {pos : Pos} {Q : Value → Shared → Prop}
    (h : _root_.PySem.wpAt M A c (eval e₁ env) (fun v s₁ => wpAny M A (truthy v) (fun c s₂ => if c then wpAny M A (eval (.BoolOp .And (e₂ :: rest) pos) env) Q E s₂ else Q v s₂) E s₁) E s) :
    _root_.PySem.wpAt M A c (eval (.BoolOp .And (e₁ :: e₂ :: rest) pos) env) Q E s := by
  show _root_.PySem.wpAt M A c (do
    let v ← eval e₁ env
    standAt pos
    let c ← holding [v] (truthy v)
    match BoolOp.And, c with
    | .And, false | .Or, true => pure v
    | _, _ => boolOp pos .And (eval e₂ env :: evalEach rest env)) Q E s
  refine _root_.PySem.wpAt_bind (ks_wpAt_mono h (fun v s₁ h₁ => wpAt_of_wpAny (wpAny_bind (wpAny_standAt (wpAny_bind (wpAny_holding (wpAny_mono h₁ (fun c s₂ h₂ => ?_) fun _ _ x => x)))))) fun _ _ x => x)
  cases c with
  | false => exact wpAny_pure h₂
  | true => exact h₂
theorem at_not {x : Expr} {pos : Pos} {whole : Sem Value} {Q : Bool → Shared → Prop} (h : _root_.PySem.wpAt M A c (isTrue x env (eval x env)) (fun c s' => Q (!c) s') E s) :
    _root_.PySem.wpAt M A c (isTrue (.UnaryOp .Not x pos) env whole) Q E s := by
  show _root_.PySem.wpAt M A c (do return !(← isTrue x env (eval x env))) Q E s
  exact _root_.PySem.wpAt_bind (ks_wpAt_mono h (fun c s' h' => wpAt_of_wpAny (wpAny_pure h')) fun _ _ x => x)
theorem at_or {x : Expr} {rest : List Expr} {pos : Pos} {whole : Sem Value} {Q : Bool → Shared → Prop}
    (h : _root_.PySem.wpAt M A c (isTrue x env (eval x env)) (fun c s' => if c then Q true s' else wpAny M A (isTrue (.BoolOp .Or rest pos) env whole) Q E s') E s) :
    _root_.PySem.wpAt M A c (isTrue (.BoolOp .Or (x :: rest) pos) env whole) Q E s := by
  show _root_.PySem.wpAt M A c (do
    match BoolOp.Or, ← isTrue x env (eval x env) with
    | .And, false => pure false
    | .Or, true => pure true
    | _, _ => allTrue .Or rest env) Q E s
  refine _root_.PySem.wpAt_bind (ks_wpAt_mono h (fun c s' h' => wpAt_of_wpAny ?_) fun _ _ x => x)
  cases c with
  | false => exact h'
  | true => exact wpAny_pure h'
end
section
variable {X : Cx} {body : List Stmt} {e a b : Expr} {rest : List Expr} {st : Stmt} {sts : List Stmt} {pos : Pos} {te ta tb : TE} {tA tB' : TT} {t u : TS}
structure PEa (X : Cx) (body : List Stmt) (e : Expr) (te : TE) : Prop where
  run : ∀ pins s σ H Q, Inv X pins σ H s → te σ H Q → _root_.PySem.wpAt (model X.prog X.w) X.A (.func body X.env) (eval e X.env) (EP X pins σ Q) X.xe s
structure PTa (X : Cx) (body : List Stmt) (e : Expr) (t : TT) : Prop where
  run : ∀ pins s σ H Q, Inv X pins σ H s → t σ H Q → _root_.PySem.wpAt (model X.prog X.w) X.A (.func body X.env) (isTrue e X.env (eval e X.env)) (TP X pins σ Q) X.xe s
structure PSa (X : Cx) (body : List Stmt) (st : Stmt) (t : TS) : Prop where
  run : ∀ pins s σ H D, Inv X pins σ H s → t D σ H → _root_.PySem.wpAt (model X.prog X.w) X.A (.func body X.env) (exec st X.env) (SP X pins D) X.xe s
structure PSsa (X : Cx) (body : List Stmt) (sts : List Stmt) (t : TS) : Prop where
  run : ∀ pins s σ H D, Inv X pins σ H s → t D σ H → _root_.PySem.wpAt (model X.prog X.w) X.A (.func body X.env) (execs sts X.env) (SP X pins D) X.xe s
/-- super().m(..), self the first name -/
def tSupM (C : Addr) (sp : Sp) (ta : TA) : TE := fun σ H Q => ∃ a dx fs, σ[0]? = some (some (.ref a)) ∧ H a = some (.ins C dx fs) ∧ ta σ H fun vs H2 => sp (.ref a :: vs) H2 Q E0
theorem pea_sup {self m : Str} {D C g : Addr} {k : Nat} {sp : Sp} {p0 p1 p2 : Pos} {es : List Expr} {ta : TA} {pl : Sem Bool} (S : SupF X.prog X.K X.mg X.env self D) (T : SupA X.K C D m g) (F : FnR X.prog X.w X.K X.mg X.base CX0 k g sp) (hr : Room k X.A) (hN : X.N[0]? = some self) (ha : PA X (e :: es) ta)
    (hev : eval (.Call (.Attribute (.Call (.Name "super" p0) [] [] p1) m p2) (e :: es) [] pos) X.env = (do
      let ov ← attributeBase (.Call (.Name "super" p0) [] [] p1) m X.env (eval (.Call (.Name "super" p0) [] [] p1) X.env)
      standAt p2.atName
      let (f, first) ← holding [ov] (getMethod ov m pl)
      callWith pos f first (backTo pos (starEach (e :: es) X.env)) []) := by rfl)
    (he : starEach (e :: es) X.env = (false, eval e X.env) :: starEach es X.env := by rfl) (hpl : (backTo pos (starEach es X.env)).any (·.1) = false := by rfl) :
    PEa X body (.Call (.Attribute (.Call (.Name "super" p0) [] [] p1) m p2) (e :: es) [] pos) (tSupM C sp ta) :=
  ⟨fun _ _ _ _ _ I ⟨_, _, _, h0, ea, h⟩ => sup_eval I S T F hr hN h0 ea ha h hev he hpl⟩
theorem pea_and (ha : PEa X body a ta) (hb : PE X (.BoolOp .And (b :: rest) pos) tb) : PEa X body (.BoolOp .And (a :: b :: rest) pos) (tAndV ta tb) := by
  refine ⟨fun pins s σ H Q I h => ?_⟩
  refine at_and (ks_wpAt_mono (ha.run pins s σ H _ I h) (fun v s1 ⟨x, H1, I1, r1, q1⟩ => ?_) fun _ _ z => z)
  obtain ⟨c, rfl, q1⟩ := q1
  cases r1
  refine wpAny_truthy_bool ?_
  cases c with
  | true => exact hb.run pins s1 σ H1 Q I1 q1
  | false => exact ⟨.bl false, H1, I1, rfl, q1⟩
theorem pta_val (h : PEa X body e te) (he : ∀ whole, isTrue e X.env whole = (do let v ← whole; standAt e.pos; holding [v] (truthy v)) := by intro _; rfl) : PTa X body e (tB te) := by
  refine ⟨fun pins s σ H Q I hw => ?_⟩
  rw [he]
  refine _root_.PySem.wpAt_bind (ks_wpAt_mono (h.run pins s σ H _ I hw) (fun v s1 ⟨x, H1, I1, r1, q1⟩ => wpAt_of_wpAny (wpAny_bind (wpAny_standAt (wpAny_holding ?_)))) fun _ _ z => z)
  obtain ⟨d, rfl, q⟩ := q1
  cases r1
  exact wpAny_truthy_bool ⟨H1, I1, q⟩
theorem pta_not (h : PTa X body a tA) : PTa X body (.UnaryOp .Not a pos) (tNot tA) := ⟨fun pins s σ H Q I hw => at_not (h.run pins s σ H (fun c H1 => Q (!c) H1) I hw)⟩
theorem pta_or (ha : PTa X body a tA) (hb : PW X (.BoolOp .Or (b :: rest) pos) tB') : PTa X body (.BoolOp .Or (a :: b :: rest) pos) (tOr tA tB') := by
  refine ⟨fun pins s σ H Q I h => ?_⟩
  refine at_or (ks_wpAt_mono (ha.run pins s σ H _ I h) (fun c s1 ⟨H1, I1, q1⟩ => ?_) fun _ _ z => z)
  cases c with
  | true => exact ⟨H1, I1, q1⟩
  | false => exact hb.run _ pins s1 σ H1 Q I1 q1
theorem psa_ret (h : PEa X body e te) : PSa X body (.Return (some e) pos) (tRet te) :=
  ⟨fun pins s σ H D I w => ks_wpAt_Return_some (ks_wpAt_mono (h.run pins s σ H _ I w) (fun v s1 ⟨x, H1, I1, r1, q1⟩ => ⟨x, σ, H1, I1, r1, q1⟩) fun _ _ z => z)⟩
theorem psa_if {c : Expr} {x y : List Stmt} {tc : TT} (hc : PTa X body c tc) (ha : PSs X x t) (hb : PSs X y u) : PSa X body (.If c x y pos) (tIfS tc t u) := by
  refine ⟨fun pins s σ H D I h => ?_⟩
  refine ks_wpAt_If (ks_wpAt_mono (hc.run pins s σ H _ I h) (fun d s1 ⟨H1, I1, q1⟩ => ?_) fun _ _ z => z)
  cases d with
  | true => exact wpAt_of_wpAny (ha.run pins s1 σ H1 D I1 q1)
  | false => exact wpAt_of_wpAny (hb.run pins s1 σ H1 D I1 q1)
theorem PSa.of (h : PS X st t) : PSa X body st t := ⟨fun pins s σ H D I w => wpAt_of_wpAny (h.run pins s σ H D I w)⟩
theorem PSsa.of (h : PSs X sts t) : PSsa X body sts t := ⟨fun pins s σ H D I w => wpAt_of_wpAny (h.run pins s σ H D I w)⟩
theorem pssa_cons (h : PSa X body st t) (hs : PSsa X body sts u) : PSsa X body (st :: sts) (tSeq t u) := by
  refine ⟨fun pins s σ H D I w => ?_⟩
  refine ks_wpAt_execs_cons (ks_wpAt_mono (h.run pins s σ H _ I w) (fun fl s1 hf => ?_) fun _ _ z => z)
  cases fl with
  | next =>
    obtain ⟨σ', H', J, q⟩ := hf
    exact hs.run pins s1 σ' H' D J q
  | brk => exact hf
  | cont => exact hf
  | ret u => exact hf
theorem pssa_one (h : PSa X body st t) : PSsa X body [st] t := by
  refine ⟨fun pins s σ H D I w => ?_⟩
  refine ks_wpAt_execs_cons (ks_wpAt_mono (h.run pins s σ H _ I w) (fun fl s1 hf => ?_) fun _ _ z => z)
  cases fl with
  | next => exact wpAt_of_wpAny (wpAny_execs_nil hf)
  | brk => exact hf
  | cont => exact hf
  | ret u => exact hf
end
section
variable {CX : CXT} {P : Program} {w : World} {K : PySem.W.Frag} {mg : Str → Option Value} {base : Heap} {k : Nat} {F : NF} {f cc D : Addr} {kV doc pm ct oc : Value} {an od : Option Addr} {osl : Array (Option Value)} {N ps : List Str} {sp : Sp}
/-- a def with the class's cell, whose body says super() -/
theorem fn_at (lk : K.lookup f = some ⟨oc, od, .func (PySem.W.fnX F.name F.qual F.params F.body F.scope F.cl .none kV doc pm an (.ref F.c) ct), osl⟩) (hcd : PySem.W.codeIn K (.ref F.c) F.qual = true) (hcl : F.cl = [(("__class__" : Str), cc)])
    (hcc : ∃ cl cld csl, K.lookup cc = some ⟨cl, cld, .cell (some (.ref D)), csl⟩) (S : NScope N ps ["__class__"] F.scope)
    (len : ∀ vs H Q E, sp vs H Q E → vs.length = ps.length)
    (hbody : ∀ (A : Around) (outer : List Env) (s : Shared) (H : Hp) (vs : List V) (Q : VK) (E : XK), Room k (A.deeper (envF F f s.heap.objs.size)) → sp vs H Q E →
      ∃ t : TS, PSsa (ncx CX P w K mg base N F f A outer s H E) F.body F.body t ∧ t { nx := fun _ H' => Q .non H', rt := Q } (startF N vs [none]) H) :
    FnOk P w K mg base CX (k + 1) f (PySem.W.fnX F.name F.qual F.params F.body F.scope F.cl .none kV doc pm an (.ref F.c) ct) ps sp := by
  refine ⟨len, fun A outer s H args us vs Q E hr e0 hb r hsp => ?_⟩
  have hl := len _ _ _ _ hsp
  have KX : K.In s.heap := e0.mod.kin.keeps fun b o e => (e0.bs b o e).1
  have lim : s.heap.NoLimit := e0.mod.nolimit.keeps fun b o e => (e0.bs b o e).1
  obtain ⟨cl, cld, csl, hcc⟩ := hcc
  have C : CellsAt F.cl ["__class__"] [none] s.heap H := by
    have one : ∀ {y : Str} {c : Addr}, F.cl.lookup y = some c → y = "__class__" ∧ c = cc := fun {y c} e => by
      rw [hcl] at e
      by_cases h : y = ("__class__" : Str)
      · subst h
        have e2 : some cc = some c := e
        exact ⟨rfl, (Option.some.inj e2).symm⟩
      · have h2 : (y == ("__class__" : Str)) = false := by simpa using h
        rw [List.lookup_cons, h2] at e
        cases e
    refine ⟨rfl, fun y c e => ?_, fun x y c e1 e2 => (one e1).1.trans (one e2).1.symm, fun i y hi => ?_⟩
    · rw [(one e).2]
      exact ⟨(e0.bs _ _ (e0.mod.kin _ _ hcc)).2, _, ⟨_, KX _ _ hcc, rfl⟩⟩
    · cases i with
      | zero =>
        have e : ("__class__" : Str) = y := Option.some.inj hi
        refine ⟨cc, by rw [hcl, ← e]; rfl, fun v hv => ?_⟩
        cases hv
      | succ i => cases hi
  refine ks_codeAny_call_defAt hr.depth (KX _ _ lk) rfl lim (PySem.W.codeRec_of KX hcd) rfl hb S.nocell (fun ⟨n, v⟩ hy => S.par n (List.of_mem_zip hy).1) (fun h₁ hns kp => ?_) S.co S.gen S.kind
  show _root_.PySem.wpAt (model P w) (A.deeper (envF F f s.heap.objs.size)) (.func F.body (envF F f s.heap.objs.size)) (execs F.body (envF F f s.heap.objs.size)) _ _ _
  obtain ⟨t, ps', hq⟩ := hbody A outer s H vs Q E (hr.deeper _) hsp
  have I : Inv (ncx CX P w K mg base N F f A outer s H E) [] (startF N vs [none]) H { s with heap := h₁, toks := s.toks + (ps.zip us).length } := inv_startN S hr.hd e0 hl r C hns kp
  have fin : ∀ {s' : Shared} {σ' : L2.St} {H' : Hp} {v : V} {u : Value}, Inv (ncx CX P w K mg base N F f A outer s H E) [] σ' H' s' → L2.RelV v u → Q v H' → CE outer P w H s Q u s' :=
    fun {s' σ' H' v u} J rv q => ⟨v, H', J.os, J.bare, J.base, J.hok, rv, q⟩
  refine ks_wpAt_mono (ps'.run [] _ (startF N vs [none]) H _ I hq) (fun fl s' hs => ?_) fun e s' hs => hs
  cases fl with
  | ret u =>
    obtain ⟨v, σ', H', J, rv, q⟩ := hs
    exact fin J rv q
  | next =>
    obtain ⟨σ', H', J, q⟩ := hs
    exact fin (v := V.non) (u := Value.none) J rfl q
  | brk =>
    obtain ⟨_, _, _, q⟩ := hs
    exact False.elim q
  | cont =>
    obtain ⟨_, _, _, q⟩ := hs
    exact False.elim q
end
end SupM
/-! sorted(xs), xs a list of data (alike tuples, ..), any length: the stable sort by the order of data. -/
namespace So
open PySem PySem.Spec PyProof.Rows L2 Bx TL Dx PySem.W
section
variable {X : Cx} {pins : List (Addr × Obj)} {σ : L2.St} {H : Hp} {s : Shared}
theorem each_of (I : Inv X pins σ H s) : ∀ {vs : List V} {us : List Value} {ds : List PyData}, DpAll X.K H vs ds → Vals vs us → EachIs (fun u d => (∃ v, Dp X.K H v d ∧ L2.RelV v u) ∧ ∃ as, Reads s.heap u d as) us ds
  | [], [], [], _, _ => .nil
  | v :: vs, u :: us, d :: ds, h, r => by
    cases h with
    | cons h1 h2 =>
      cases r with
      | cons r1 r2 => exact .cons ⟨⟨v, h1, r1⟩, Dp.reads I d v u h1 r1⟩ (each_of I h2 r2)
  | [], _ :: _, _, _, r => by cases r
  | _ :: _, [], _, _, r => by cases r
  | [], [], _ :: _, h, _ => by cases h
  | _ :: _, _ :: _, [], h, _ => by cases h
theorem each_back {K : Frag} : ∀ {us : List Value} {ds : List PyData}, EachIs (fun u d => ∃ v, Dp K H v d ∧ L2.RelV v u) us ds → ∃ vs, Vals vs us ∧ DpAll K H vs ds
  | _, _, .nil => ⟨[], .nil, .nil⟩
  | _, _, .cons ⟨v, h, r⟩ t => by
    obtain ⟨vs, r2, h2⟩ := each_back t
    exact ⟨v :: vs, .cons r r2, .cons h h2⟩
def dle : PyData → PyData → Bool := dataLe false id
def rSortD (K : Frag) : List V → Hp → VK → Prop := fun xs H Q => ∃ (a : Addr) (vs : List V) (ds : List PyData), xs = [V.ref a] ∧ SqL K H a vs ∧ DpAll K H vs ds ∧ AllAlike ds ∧ Sortable ds ∧ ds.length ≤ sizeLine ∧ (∀ d ∈ ds, d.depth ≤ 60) ∧
  ∀ (ys : List V) (p : Addr), H p = none → DpAll K H ys (ds.mergeSort dle) → Q (.ref p) (upd H p (.lst ys))
theorem cr_sortD (hu : X.A.units + 65 < cLine) : CallR X (.builtin "sorted") (rSortD X.K) := by
  intro pins s σ H xs us Q I r h
  obtain ⟨a, vs, ds, rfl, hs, hd, hal, hso, hz, hdp, q⟩ := h
  cases r with
  | cons r1 r2 =>
    cases r2
    cases r1
    obtain ⟨its, rv, hl, _⟩ := I.list hs
    have ea := each_of I hd rv
    refine sorted_data (bs := ds) (enc := id) (R := fun u d => ∃ v, Dp X.K H v d ∧ L2.RelV v u) hl.isList (ea.mono fun _ _ z => z.1) (ea.mono fun _ _ z => z.2) (by rw [List.map_id]; exact hal) (by rw [List.map_id]; exact hso) hz (fun d hd => ?_) fun out hlen eo => ?_
    · have := hdp d hd
      show X.A.units + 2 + d.depth < cLine
      omega
    · obtain ⟨ys, ry, dy⟩ := each_back eo
      obtain ⟨ep, he'⟩ := PyProof.Rows.sortedAll_at s.heap its out.toArray
      have hyl : ys.length = ds.length := by rw [ry.length, hlen]
      exact ⟨.ref _, upd H (s.heap.objs.size + 1) (.lst ys), I.laid (t' := s.toks) (fun _ _ => PyProof.Rows.sortedAll_old) (Nat.le_succ _) ⟨by rw [hyl]; exact hz, out, ep, ry, by simpa using he'⟩, rfl, q ys _ (I.hok.fresh (Nat.le_succ _)) dy⟩
end
end So
/-! Sets of nested tuples of ints and texts, fewer than 64 members: set(xs), sorted(..), `in`. -/
namespace Sd
open PySem PySem.Spec PyProof.Rows L2
abbrev NK := PySem.NestedKey
/-- the tuple at a is the key k -/
def Is8 (h : PySem.Heap) (k : NK) (a : Addr) : Prop := NestedIs h k (.ref a) ∧ k.depth ≤ 8
def ClsAt (P : Program) (w : World) (n : Nat) (s : Shared) (v : Value) : Prop := ∀ (A : Around) (E : Value → Shared → Prop) (Q : Bool → Shared → Prop), Q false s → wpAny (model P w) A (ofAClassStatement n v) Q E s
def HbvAt (P : Program) (w : World) (n : Nat) (s : Shared) (v : Value) : Prop := ∀ (A : Around) (E : Value → Shared → Prop) (Q : Bool → Shared → Prop), (∀ b, Q b s) → wpAny (model P w) A (hashByValue n v) Q E s
section
variable {P : Program} {w : World} {A : Around} {E : Value → Shared → Prop} {s : Shared}
theorem cls_pure {n : Nat} {v : Value} (e : ofAClassStatement n v = pure false) : ClsAt P w n s v := fun A E Q q => by
  rw [e]
  exact wpAny_pure q
theorem hbv_pure {n : Nat} {v : Value} {b : Bool} (e : hashByValue n v = pure b) : HbvAt P w n s v := fun A E Q q => by
  rw [e]
  exact wpAny_pure (q b)
theorem cls_tuple {n m : Nat} {a : Addr} {o : Obj} {vs : Array Value} (ho : s.heap.get? a = some o) (hc : o.cls = .type "tuple") (hd : o.data = .seq vs m) (all : ∀ v ∈ vs.toList, ClsAt P w n s v) : ClsAt P w (n + 1) s (.ref a) := fun A E Q q => by
  unfold ofAClassStatement
  refine wpAny_bind (wpAny_typeOf (show s.TypeIs (.ref a) "tuple" from ⟨o, ho, hc⟩) ?_)
  simp only [show (("tuple" : String) == "tuple") = true by decide, if_true, pure_bind, Bool.not_true, Bool.false_eq_true, if_false]
  refine wpAny_bind (wpAny_seqItems ho hd (wpAny_bind ?_))
  rw [← Array.forIn_toList]
  refine wpAny_forIn_list _ (fun left r s' => s' = s ∧ r.1 = none ∧ ∀ v ∈ left, ClsAt P w n s v) _ ?_ ?_ _ _ ⟨rfl, rfl, all⟩
  · rintro v left r s' ⟨rfl, e, rest⟩
    refine wpAny_bind (rest v (List.mem_cons_self ..) _ _ _ ?_)
    simp only [Bool.false_eq_true, if_false]
    exact wpAny_pure ⟨rfl, rfl, fun u hu => rest u (List.mem_cons_of_mem _ hu)⟩
  · rintro ⟨r, x⟩ s' ⟨rfl, e, _⟩
    simp only at e
    subst e
    exact wpAny_pure q
theorem hbv_tuple {n m : Nat} {a : Addr} {o : Obj} {vs : Array Value} (ho : s.heap.get? a = some o) (hc : o.cls = .type "tuple") (hd : o.data = .seq vs m) (all : ∀ v ∈ vs.toList, HbvAt P w n s v) : HbvAt P w (n + 1) s (.ref a) := fun A E Q q => by
  unfold hashByValue
  refine wpAny_bind (wpAny_specialOf (show s.TypeIs (.ref a) "tuple" from ⟨o, ho, hc⟩) F.slot_tuple_hash.lookup ?_)
  show wpAny _ _ (seqItems? (.ref a) >>= _) _ _ s
  refine wpAny_bind (wpAny_seqItems ho hd (wpAny_bind ?_))
  show wpAny _ _ (forIn vs _ _) _ _ s
  rw [← Array.forIn_toList]
  refine wpAny_forIn_list _ (fun left r s' => s' = s ∧ r.1 = none ∧ ∀ v ∈ left, HbvAt P w n s v) _ ?_ ?_ _ _ ⟨rfl, rfl, all⟩
  · rintro v left r s' ⟨rfl, e, rest⟩
    refine wpAny_bind (rest v (List.mem_cons_self ..) _ _ _ fun b => ?_)
    cases b with
    | true =>
      simp only [Bool.not_true, Bool.false_eq_true, if_false]
      exact wpAny_pure ⟨rfl, rfl, fun u hu => rest u (List.mem_cons_of_mem _ hu)⟩
    | false =>
      simp only [Bool.not_false, if_true]
      exact wpAny_pure (wpAny_pure (q false))
  · rintro ⟨r, x⟩ s' ⟨rfl, e, _⟩
    simp only at e
    subst e
    exact wpAny_pure (q true)
mutual
theorem cls_key : ∀ (k : NK) (v : Value) (n : Nat), NestedIs s.heap k v → k.depth ≤ n → ClsAt P w n s v
  | .none, _, n, x, _ => by
    cases x
    exact cls_pure (by cases n <;> rfl)
  | .num i, _, n, x, _ => by
    cases x <;> exact cls_pure (by cases n <;> rfl)
  | .text y, _, n, x, _ => by
    cases x
    exact cls_pure (by cases n <;> rfl)
  | .tup ks, _, n, x, hn => by
    cases x with
    | tup hg hc hd hk =>
      simp only [NestedKey.depth] at hn
      cases n with
      | zero => omega
      | succ n => exact cls_tuple hg hc hd (cls_keys ks _ n hk (by omega))
theorem cls_keys : ∀ (ks : List NK) (vs : List Value) (n : Nat), NestedAll s.heap ks vs → NestedKey.depthAll ks ≤ n → ∀ v ∈ vs, ClsAt P w n s v
  | [], _, n, x, _, v, hv => by
    cases x
    cases hv
  | k :: ks, _, n, x, hn, v, hv => by
    cases x with
    | cons x1 x2 =>
      simp only [NestedKey.depthAll] at hn
      rcases List.mem_cons.mp hv with e | hv
      · rw [e]
        exact cls_key k _ n x1 (by omega)
      · exact cls_keys ks _ n x2 (by omega) v hv
end
mutual
theorem hbv_key : ∀ (k : NK) (v : Value) (n : Nat), NestedIs s.heap k v → k.depth ≤ n → HbvAt P w n s v
  | .none, _, n, x, _ => by
    cases x
    exact hbv_pure (b := true) (by cases n <;> rfl)
  | .num i, _, n, x, _ => by
    cases x <;> exact hbv_pure (b := true) (by cases n <;> rfl)
  | .text y, _, n, x, _ => by
    cases x
    exact hbv_pure (b := false) (by cases n <;> rfl)
  | .tup ks, _, n, x, hn => by
    cases x with
    | tup hg hc hd hk =>
      simp only [NestedKey.depth] at hn
      cases n with
      | zero => omega
      | succ n => exact hbv_tuple hg hc hd (hbv_keys ks _ n hk (by omega))
theorem hbv_keys : ∀ (ks : List NK) (vs : List Value) (n : Nat), NestedAll s.heap ks vs → NestedKey.depthAll ks ≤ n → ∀ v ∈ vs, HbvAt P w n s v
  | [], _, n, x, _, v, hv => by
    cases x
    cases hv
  | k :: ks, _, n, x, hn, v, hv => by
    cases x with
    | cons x1 x2 =>
      simp only [NestedKey.depthAll] at hn
      rcases List.mem_cons.mp hv with e | hv
      · rw [e]
        exact hbv_key k _ n x1 (by omega)
      · exact hbv_keys ks _ n x2 (by omega) v hv
end
/-- looking such a key up shows nothing -/
theorem unseen {k : NK} {b : Addr} {Q : Bool → Shared → Prop} (hk : Is8 s.heap k b) {ys : List Value} (hy : ∀ y ∈ ys, ∃ k' c, y = Value.ref c ∧ Is8 s.heap k' c) (q : Q false s) : wpAny (model P w) A (searchCouldBeSeen (.ref b) ys) Q E s := by
  unfold searchCouldBeSeen
  refine wpAny_bind (wpAny_forIn_list _ (fun left r s' => s' = s ∧ r.1 = none ∧ ∀ y ∈ left, ∃ k' c, y = Value.ref c ∧ Is8 s.heap k' c) _ ?_ ?_ _ _ ⟨rfl, rfl, hy⟩)
  · rintro v left r s' ⟨rfl, e, all⟩
    obtain ⟨k', c, rfl, hc⟩ := all v (List.mem_cons_self ..)
    have rest : ∀ y ∈ left, ∃ k' c, y = Value.ref c ∧ Is8 s'.heap k' c := fun y hy => all y (List.mem_cons_of_mem _ hy)
    dsimp only
    by_cases hv : (b == c || (carriedByValue (.ref b) && carriedByValue (.ref c))) = true
    · refine wp_if_pos hv ?_
      exact wpAny_pure ⟨rfl, rfl, rest⟩
    · refine wp_if_neg hv ?_
      refine wpAny_bind ((nestedKind P w).quiet (show (nestedKind P w).is s'.heap k b from hk) ?_)
      simp only [Bool.not_true, Bool.false_eq_true, if_false]
      refine wpAny_bind ((nestedKind P w).quiet (show (nestedKind P w).is s'.heap k' c from hc) ?_)
      simp only [Bool.not_true, Bool.false_eq_true, if_false]
      refine wpAny_bind (cls_key k _ 8 hk.1 hk.2 _ _ _ ?_)
      simp only [Bool.false_eq_true, if_false]
      refine wpAny_bind (cls_key k' _ 8 hc.1 hc.2 _ _ _ ?_)
      simp only [Bool.false_eq_true, if_false]
      exact wpAny_pure ⟨rfl, rfl, rest⟩
  · rintro ⟨r, x⟩ s' ⟨rfl, e, _⟩
    simp only at e
    subst e
    exact wpAny_pure q
end
end Sd
namespace Sd
open PySem PySem.Spec PyProof.Rows L2
/-! ### the table -/
abbrev rowN (w : World) (p : Addr × NK) : Int × Value := (p.2.hash w, Value.ref p.1)
structure Ts (w : World) (h : PySem.Heap) (a : Addr) (L : List (Addr × NK)) (es : Array (Int × Value)) (ep : Nat) (t : SetTable) : Prop where
  obj : ∃ o, h.get? a = some o ∧ o.ExactSet ∧ o.data = .set es ep t
  row : es.toList = L.map (rowN w)
  tab : TabOk t (L.map fun p => p.2.hash w)
  one : (L.map (·.2)).Nodup
  mem : ∀ p ∈ L, Is8 h p.2 p.1
  led : w.params.followText "set-order" = true ∨ t.led = true
  free : L.length * 5 < t.mask * 3
  few : L.length < 64
/-- where the search for the hash h begins -/
abbrev beg (t : SetTable) (h : Int) : SetTable.Probe := runAt t.mask (SetTable.bits h % (t.mask + 1)) (SetTable.bits h)
section
variable {P : Program} {w : World} {A : Around} {E : Value → Shared → Prop} {s : Shared} {a : Addr} {L : List (Addr × NK)} {es : Array (Int × Value)} {ep : Nat} {t : SetTable}
theorem Ts.num (R : Ts w s.heap a L es ep t) : es.size = L.length := by
  have z := congrArg List.length R.row
  rwa [Array.length_toList, List.length_map] at z
theorem Ts.fit (R : Ts w s.heap a L es ep t) : t.fits es.size = true := by
  have z1 := R.tab.sz
  have z2 := R.num
  have z3 := R.free
  rw [List.length_map] at z1
  unfold SetTable.fits SetTable.fill
  rw [R.tab.dm, Bool.and_eq_true, beq_iff_eq, decide_eq_true_eq]
  show t.place.size = es.size ∧ t.place.size + 0 ≤ t.mask
  omega
theorem Ts.at (R : Ts w s.heap a L es ep t) {i : Nat} {p : Addr × NK} (e : L[i]? = some p) : es[i]? = some (rowN w p) := by
  rw [← Array.getElem?_toList, R.row, List.getElem?_map, e]
  rfl
theorem Ts.nogw (R : Ts w s.heap a L es ep t) : ¬ t.gaveWay = true := by
  unfold SetTable.gaveWay
  rw [mask_odd R.tab.mok]
  exact Bool.false_ne_true
theorem beg_quiet (m : Nat) : ∀ (n : Nat) (p : SetTable.Probe), p.dummy = none → (nth m p n).dummy = none
  | 0, _, h => h
  | n + 1, p, h => beg_quiet m n (adv m p) (by
    unfold adv
    split <;> exact h)
/-- from step c of the way on: found, or the first empty slot -/
theorem look_from (R : Ts w s.heap a L es ep t) {x : Addr} {k : NK} (hx : Is8 s.heap k x) (hu : A.units + 8 < cLine) {K : Nat} (K1 : K < 10 * SetTable.turns t.mask) (K2 : way t.mask (k.hash w) K ∉ t.place.toList) (K3 : ∀ c, c < K → way t.mask (k.hash w) c ∈ t.place.toList)
    {Q : SetFound → Shared → Prop} (yes : k ∈ L.map (·.2) → Q (.there none) s) (no : k ∉ L.map (·.2) → Q (.free (way t.mask (k.hash w) K) false) s) :
    ∀ (fuel c : Nat) (stand : Option SetTable.Probe), stand.getD (t.probeStart (k.hash w)) = nth t.mask (beg t (k.hash w)) c → c ≤ K → K - c < fuel →
      (∀ (i : Nat) p, L[i]? = some p → p.2 = k → ∃ d, c ≤ d ∧ d < K ∧ t.place.toList[i]? = some (way t.mask (k.hash w) d)) → wpAny (model P w) A (setSearchFrom a (.ref x) (k.hash w) true fuel stand) Q E s := by
  intro fuel
  induction fuel with
  | zero => exact fun c _ _ _ lt _ => absurd lt (Nat.not_lt_zero _)
  | succ fuel ih =>
    intro c stand est cK lt here
    obtain ⟨o, ho, hex, hd⟩ := R.obj
    have sum : ∀ q, nth t.mask (nth t.mask (beg t (k.hash w)) c) q = nth t.mask (beg t (k.hash w)) (c + q) := fun q => (nth_add t.mask c _ q).symm
    have wy : ∀ q, (nth t.mask (nth t.mask (beg t (k.hash w)) c) q).j = way t.mask (k.hash w) (c + q) := fun q => congrArg SetTable.Probe.j (sum q)
    have hsh : ∀ (i : Nat) p, L[i]? = some p → (es[i]?.map (·.1)).getD 0 = p.2.hash w := fun i p hp => by
      rw [R.at hp]
      rfl
    have met := go_spec t R.tab.ris R.tab.dm (fun i => (es[i]?.map (·.1)).getD 0) (k.hash w) (10 * SetTable.turns t.mask) (K - c) _ (beg_quiet t.mask c (beg t (k.hash w)) rfl) (by omega) (fun q hq => by rw [wy]; exact K3 _ (by omega)) (by rw [wy, show c + (K - c) = K by omega]; exact K2)
    rw [setSearchFrom_succ]
    refine wpAny_bind (wpAny_setState_of ho hd R.fit ?_)
    dsimp only
    refine wp_if_neg R.nogw ?_
    try refine wpAny_bind (wpAny_pure ?_)
    rcases met with ⟨q, i, hq, hi, hh, hno, pr⟩ | ⟨hno, pr⟩
    · have pr2 : t.probe (fun i => (es[i]?.map (·.1)).getD 0) (k.hash w) (stand.getD (t.probeStart (k.hash w))) = some (.candidate (way t.mask (k.hash w) (c + q)) i (nth t.mask (beg t (k.hash w)) (c + (q + 1)))) := by
        rw [est, ← wy, ← sum]
        exact pr
      rw [pr2]
      dsimp only
      rw [wy] at hi
      have iL : i < L.length := by
        have z1 := (List.getElem?_eq_some_iff.mp hi).1
        have z2 := R.tab.sz
        rw [List.length_map] at z2
        rw [Array.length_toList] at z1
        omega
      obtain ⟨p, hp⟩ : ∃ p, L[i]? = some p := ⟨_, List.getElem?_eq_getElem iL⟩
      have pm : p ∈ L := List.mem_of_getElem? hp
      have go : wpAny (model P w) A (searchRest a (.ref x) (k.hash w) true fuel es t (way t.mask (k.hash w) (c + q)) i (nth t.mask (beg t (k.hash w)) (c + (q + 1)))) Q E s := by
        unfold searchRest
        rw [R.at hp]
        dsimp only
        refine wpAny_bind (wpAny_holding ((nestedKind P w).eqBool (show A.units + 8 < cLine from hu) (show (nestedKind P w).is s.heap p.2 p.1 from R.mem p pm) (show (nestedKind P w).is s.heap k x from hx) ?_))
        refine wpAny_bind (wpAny_setState_of ho hd R.fit ?_)
        dsimp only
        by_cases e : p.2 = k
        · refine wp_if_pos (by simp [e]) ?_
          exact wpAny_pure (yes (List.mem_map.mpr ⟨p, pm, e⟩))
        · refine wp_if_neg (by simp [e]) ?_
          try refine wpAny_bind (wpAny_pure ?_)
          have live : t.slot (way t.mask (k.hash w) (c + q)) = .live i := slot_live R.tab.ris hi
          rw [sameMem]
          dsimp only
          simp only [if_true, live, R.at hp]
          refine wpAny_bind (wpAny_isSame_ref_self (wpAny_bind (wpAny_pure ?_)))
          simp only [if_true]
          refine wp_if_neg (by simp [e]) ?_
          refine ih (c + (q + 1)) _ rfl (by omega) (by omega) fun i' p' hp' e' => ?_
          obtain ⟨d, d1, d2, d3⟩ := here i' p' hp' e'
          refine ⟨d, Nat.not_lt.mp fun lt' => ?_, d2, d3⟩
          rcases Nat.lt_or_ge d (c + q) with z | z
          · exact hno (d - c) i' (by omega) (by rw [wy, show c + (d - c) = d by omega]; exact d3) ((hsh i' p' hp').trans (by rw [e']))
          · have ed : d = c + q := by omega
            rw [ed] at d3
            have live2 := slot_live R.tab.ris d3
            rw [live] at live2
            injection live2 with ei
            rw [← ei, hp] at hp'
            exact e (by rw [Option.some.inj hp']; exact e')
      by_cases hl : t.led = true
      · refine wp_if_neg (by simp [hl]) ?_
        try refine wpAny_bind (wpAny_pure ?_)
        exact go
      · refine wp_if_pos (by simp [hl]) ?_
        refine wpAny_bind (unseen hx (fun y hy => ?_) ?_)
        · obtain ⟨e, he, rfl⟩ := List.mem_map.mp hy
          have e1 : e ∈ es ∧ e.1 = k.hash w := by simpa using he
          have e2 : e ∈ es.toList := by simpa using e1.1
          rw [R.row] at e2
          obtain ⟨p', hp', rfl⟩ := List.mem_map.mp e2
          exact ⟨p'.2, p'.1, rfl, R.mem p' hp'⟩
        · refine wp_if_neg Bool.false_ne_true ?_
          try refine wpAny_bind (wpAny_pure ?_)
          exact go
    · have pr2 : t.probe (fun i => (es[i]?.map (·.1)).getD 0) (k.hash w) (stand.getD (t.probeStart (k.hash w))) = some (.empty (way t.mask (k.hash w) K) none) := by
        have z := wy (K - c)
        rw [show c + (K - c) = K by omega] at z
        rw [est, ← z]
        exact pr
      rw [pr2]
      dsimp only
      refine wpAny_pure (no fun hm => ?_)
      obtain ⟨p, pm, e⟩ := List.mem_map.mp hm
      obtain ⟨i, hp⟩ := List.mem_iff_getElem?.mp pm
      obtain ⟨d, d1, d2, d3⟩ := here i p hp e
      exact hno (d - c) i (by omega) (by rw [wy, show c + (d - c) = d by omega]; exact d3) ((hsh i p hp).trans (by rw [e]))
theorem look (R : Ts w s.heap a L es ep t) {x : Addr} {k : NK} (hx : Is8 s.heap k x) (hu : A.units + 8 < cLine) {Q : SetFound → Shared → Prop} (yes : k ∈ L.map (·.2) → Q (.there none) s)
    (no : ∀ K, k ∉ L.map (·.2) → way t.mask (k.hash w) K ∉ t.place.toList → (∀ c, c < K → way t.mask (k.hash w) c ∈ t.place.toList) → Q (.free (way t.mask (k.hash w) K) false) s) : wpAny (model P w) A (setSearch a (.ref x) (k.hash w) true) Q E s := by
  have z := R.free
  obtain ⟨K, K1, K2, K3⟩ := R.tab.first (by rw [List.length_map]; omega) (k.hash w)
  have small : 10 * SetTable.turns t.mask ≤ 1500 := by
    unfold SetTable.turns
    rcases R.tab.mok with e | e | e <;> omega
  unfold setSearch
  refine look_from R hx hu K1 K2 K3 yes (fun n => no K n K2 K3) 100000 0 none rfl (Nat.zero_le _) (by omega) fun i p hp e => ?_
  have hi : (L.map fun p => p.2.hash w)[i]? = some (k.hash w) := by
    rw [List.getElem?_map, hp, ← e]
    rfl
  have il : i < t.place.toList.length := by
    have z1 := (List.getElem?_eq_some_iff.mp hp).1
    have z2 := R.tab.sz
    rw [List.length_map] at z2
    rw [Array.length_toList]
    omega
  obtain ⟨j, hj⟩ : ∃ j, t.place.toList[i]? = some j := ⟨_, List.getElem?_eq_getElem il⟩
  obtain ⟨d, d1, d2⟩ := R.tab.before K2 hi hj
  exact ⟨d, Nat.zero_le _, d1, by rw [hj, d2]⟩
end
end Sd
namespace Sd
open PySem PySem.Spec PyProof.Rows L2
/-! ### the table laid anew; one key more -/
theorem range_get {α : Type} (L : List α) : ∀ n, n ≤ L.length → (List.range n).filterMap (fun i => L[i]?) = L.take n
  | 0, _ => rfl
  | n + 1, hn => by
    obtain ⟨x, e⟩ : ∃ x, L[n]? = some x := ⟨_, List.getElem?_eq_getElem hn⟩
    rw [List.range_succ, List.filterMap_append, range_get L n (Nat.le_of_succ_le hn), List.take_add_one, e]
    congr 1
    rw [List.filterMap_cons_some e]
    rfl
section
variable {P : Program} {w : World} {A : Around} {E : Value → Shared → Prop} {s : Shared} {a : Addr} {L : List (Addr × NK)} {es : Array (Int × Value)} {ep : Nat} {t : SetTable}
theorem ordered {order : Array Nat} (row : es.toList = L.map (rowN w)) (pm : order.toList.Perm (List.range L.length)) :
    ∃ M : List (Addr × NK), (order.filterMap (es[·]?)).toList = M.map (rowN w) ∧ M.Perm L ∧ (M.map fun p => p.2.hash w) = order.toList.map fun i => (es.map (·.1)).getD i 0 := by
  have ent : ∀ i : Nat, es[i]? = (L[i]?).map (rowN w) := fun i => by rw [← Array.getElem?_toList, row, List.getElem?_map]
  refine ⟨order.toList.filterMap (fun i => L[i]?), ?_, ?_, ?_⟩
  · rw [List.map_filterMap]
    have z : (order.filterMap (es[·]?)).toList = order.toList.filterMap (fun i => es[i]?) := by simp
    rw [z]
    congr 1
    funext i
    exact ent i
  · have z := pm.filterMap (fun i => L[i]?)
    rwa [range_get L L.length (Nat.le_refl _), List.take_length] at z
  · have all : ∀ i ∈ order.toList, i < L.length := fun i hi => List.mem_range.mp (pm.mem_iff.mp hi)
    revert all
    generalize order.toList = l
    intro all
    induction l with
    | nil => rfl
    | cons i l ih =>
      obtain ⟨p, hp⟩ : ∃ p, L[i]? = some p := ⟨_, List.getElem?_eq_getElem (all i (List.mem_cons_self ..))⟩
      have e1 : (es.map (·.1)).getD i 0 = p.2.hash w := by
        have z : (es.map (·.1))[i]? = some (p.2.hash w) := by
          rw [Array.getElem?_map, ent i, hp]
          rfl
        simp [Array.getD_eq_getD_getElem?, z]
      rw [List.filterMap_cons_some hp, List.map_cons, List.map_cons, ih fun j hj => all j (List.mem_cons_of_mem _ hj), e1]
theorem is8_but {h h' : PySem.Heap} {k : NK} {b : Addr} {o : Obj} (x : Is8 h k b) (ho : h.get? a = some o) (hd : o.data = .set es ep t) (sb : Heap.SameBut a h h') : Is8 h' k b :=
  ⟨NestedIs.at (fun c oc vs n hc hv => by
    refine (sb.2 c fun e => ?_).trans hc
    rw [e, ho] at hc
    cases hc
    rw [hd] at hv
    cases hv) k _ x.1, x.2⟩
theorem is8_keep {h h' : PySem.Heap} {k : NK} {b : Addr} (x : Is8 h k b) (kp : ∀ c o, h.get? c = some o → h'.get? c = some o) : Is8 h' k b := ⟨NestedIs.at (fun c o _ _ hc _ => kp c o hc) k _ x.1, x.2⟩
theorem relay {o : Obj} (ho : s.heap.get? a = some o) (hex : o.ExactSet) (hd : o.data = .set es ep t) (row : es.toList = L.map (rowN w)) (hsz : t.place.size = es.size) (hdm : t.dummies = #[]) (hfl : es.size ≤ t.mask) (one : (L.map (·.2)).Nodup) (mem : ∀ p ∈ L, Is8 s.heap p.2 p.1)
    (led : w.params.followText "set-order" = true ∨ t.led = true) (few : L.length < 64) {want M : Nat} (hw : SetTable.sizeAbove want - 1 = M) (hM : MaskOk M) (h128 : SetTable.sizeAbove want ≤ 128) (hn : L.length * 5 < M * 3) {Q : Unit → Shared → Prop}
    (q : ∀ h' L' es' ep' t', Heap.SameBut a s.heap h' → Ts w h' a L' es' ep' t' → L'.Perm L → Q () { s with heap := h' }) : wpAny (model P w) A (setRelay a want) Q E s := by
  have num : es.size = L.length := by
    have z := congrArg List.length row
    rwa [Array.length_toList, List.length_map] at z
  have fit : t.fits es.size = true := by
    unfold SetTable.fits SetTable.fill
    rw [hdm, Bool.and_eq_true, beq_iff_eq, decide_eq_true_eq]
    exact ⟨hsz, by show t.place.size + 0 ≤ t.mask; omega⟩
  obtain ⟨t', order, er, pm, T, em, el, _, _⟩ := relaid_ok t (hs := es.map (·.1)) (wanted := want) hw hM (by rw [Array.size_map, num]; omega)
  rw [Array.size_map, num] at pm
  obtain ⟨M', r1, r2, r3⟩ := ordered row pm
  have num2 : (order.filterMap (es[·]?)).size = es.size := by
    have z := congrArg List.length r1
    rw [Array.length_toList, List.length_map, r2.length_eq] at z
    rw [z, num]
  rw [← r3] at T
  rw [setRelay_eq]
  refine wpAny_bind (wpAny_setState_of ho hd fit ?_)
  dsimp only
  refine wp_if_neg (by rw [sizeLine_eq]; omega) ?_
  try refine wpAny_bind (wpAny_pure ?_)
  rw [er]
  dsimp only
  refine wpAny_bind (wp_if_neg (by rw [num2]; simp) ?_)
  try refine wpAny_bind (wpAny_pure ?_)
  refine wpAny_pure ?_
  dsimp only
  refine wpAny_storeSet_of ho hd ?_ (by rw [num2, num, sizeLine_eq]; omega)
  have sb : Heap.SameBut a s.heap (s.heap.update a (Obj.putSet (order.filterMap (es[·]?)) t')) := Heap.SameBut.update ..
  refine q _ M' _ (ep + 1) t' sb ⟨⟨_, store_at ho hd, ⟨hex.1, hex.2.1, hex.2.2⟩, rfl⟩, r1, T, (r2.map (·.2)).nodup_iff.mpr one, fun p hp => is8_but (mem p (r2.mem_iff.mp hp)) ho hd sb, by rw [el]; exact led, by rw [r2.length_eq, em]; exact hn, by rw [r2.length_eq]; exact few⟩ r2
theorem add1 (R : Ts w s.heap a L es ep t) {x : Addr} {k : NK} (hx : Is8 s.heap k x) (hu : A.units + 8 < cLine) (few : L.length + 1 < 64) {Q : Bool → Shared → Prop}
    (q : ∀ b h' L' es' ep' t', Heap.SameBut a s.heap h' → Ts w h' a L' es' ep' t' → (k ∈ L.map (·.2) → L' = L) → (k ∉ L.map (·.2) → L'.Perm ((x, k) :: L)) → Q b { s with heap := h' }) : wpAny (model P w) A (setAddHashed a (.ref x) (k.hash w)) Q E s := by
  obtain ⟨o, ho, hex, hd⟩ := R.obj
  have num := R.num
  have free := R.free
  unfold setAddHashed
  rw [show (100000 : Nat) = 99999 + 1 from rfl, setAddHashedIn_succ]
  refine wpAny_holding (wpAny_bind (wpAny_setState_of ho hd R.fit ?_))
  dsimp only
  refine wp_if_neg (by simp [byScan, Value.scannable]) ?_
  try refine wpAny_bind (wpAny_pure ?_)
  refine wpAny_bind (look R hx hu (fun hm => ?_) fun K hm K2 K3 => ?_)
  · dsimp only
    exact wpAny_pure (q false s.heap L es ep t (Heap.SameBut.refl a s.heap) R (fun _ => rfl) fun n => absurd hm n)
  dsimp only
  refine wpAny_bind (wpAny_setState_of ho hd R.fit ?_)
  dsimp only
  obtain ⟨p1, p2, p3, p4, p5, p6, p7, p8, p9⟩ := R.tab.put K2 K3
  generalize epp : t.put (way t.mask (k.hash w) K) = pp at p1 p3 p4 p5 p6 p7 p8 p9 ⊢
  obtain ⟨t1, j⟩ := pp
  dsimp only at p1 p3 p4 p5 p6 p7 p8 p9 ⊢
  subst p1
  -- what follows does not depend on `plain`
  have rest : ∀ t2 : SetTable, TabOk t2 ((L.map fun p => p.2.hash w).take (SetTable.below t.place (way t.mask (k.hash w) K)) ++ k.hash w :: (L.map fun p => p.2.hash w).drop (SetTable.below t.place (way t.mask (k.hash w) K))) → t2.mask = t.mask → t2.led = t.led → t2.fill = (L.map fun p => p.2.hash w).length + 1 →
      wpAny (model P w) A (do
        storeSet a (SetTable.insertAt es (SetTable.below t.place (way t.mask (k.hash w) K)) (k.hash w, Value.ref x)) t2
        if !false && t2.tooFull then setRelay a (SetTable.grown (es.size + 1))
        return true : Sem Bool) Q E s := by
    intro t2 T2 m2 l2 f2
    have ins : (SetTable.insertAt es (SetTable.below t.place (way t.mask (k.hash w) K)) (k.hash w, Value.ref x)).toList = (L.take (SetTable.below t.place (way t.mask (k.hash w) K)) ++ (x, k) :: L.drop (SetTable.below t.place (way t.mask (k.hash w) K))).map (rowN w) := by
      rw [SetTable.toList_insertAt, R.row, List.map_append, List.map_cons, List.map_take, List.map_drop]
    have hh : (L.take (SetTable.below t.place (way t.mask (k.hash w) K)) ++ (x, k) :: L.drop (SetTable.below t.place (way t.mask (k.hash w) K))).map (fun p => p.2.hash w) = (L.map fun p => p.2.hash w).take (SetTable.below t.place (way t.mask (k.hash w) K)) ++ k.hash w :: (L.map fun p => p.2.hash w).drop (SetTable.below t.place (way t.mask (k.hash w) K)) := by
      rw [List.map_append, List.map_cons, List.map_take, List.map_drop]
    rw [← hh] at T2
    have pm := put_perm L (SetTable.below t.place (way t.mask (k.hash w) K)) (x, k)
    generalize L.take (SetTable.below t.place (way t.mask (k.hash w) K)) ++ (x, k) :: L.drop (SetTable.below t.place (way t.mask (k.hash w) K)) = L1 at ins T2 pm
    have len1 : L1.length = L.length + 1 := pm.length_eq
    have num1 : (SetTable.insertAt es (SetTable.below t.place (way t.mask (k.hash w) K)) (k.hash w, Value.ref x)).size = L.length + 1 := by
      have z := congrArg List.length ins
      rwa [Array.length_toList, List.length_map, len1] at z
    generalize SetTable.insertAt es (SetTable.below t.place (way t.mask (k.hash w) K)) (k.hash w, Value.ref x) = es1 at ins num1 ⊢
    have one1 : (L1.map (·.2)).Nodup := (pm.map (·.2)).nodup_iff.mpr (by
      rw [List.map_cons]
      exact List.nodup_cons.mpr ⟨hm, R.one⟩)
    refine wpAny_bind (wpAny_storeSet_of ho hd ?_ (by rw [num1, sizeLine_eq]; omega))
    have sb : Heap.SameBut a s.heap (s.heap.update a (Obj.putSet es1 t2)) := Heap.SameBut.update ..
    have ho1 := store_at (es' := es1) (t' := t2) ho hd
    generalize s.heap.update a (Obj.putSet es1 t2) = h1 at sb ho1 ⊢
    have mem1 : ∀ p ∈ L1, Is8 h1 p.2 p.1 := fun p hp => by
      rcases List.mem_cons.mp (pm.mem_iff.mp hp) with e | hp
      · rw [e]
        exact is8_but hx ho hd sb
      · exact is8_but (R.mem p hp) ho hd sb
    have led1 : w.params.followText "set-order" = true ∨ t2.led = true := by
      rw [l2]
      exact R.led
    have full : t2.tooFull = true ↔ (L.length + 1) * 5 ≥ t2.mask * 3 := by
      unfold SetTable.tooFull
      rw [decide_eq_true_eq, f2, List.length_map]
    by_cases hf : t2.tooFull = true
    · have z := full.mp hf
      have two : (t.mask = 7 ∧ L.length = 4) ∨ (t.mask = 31 ∧ L.length = 18) := by
        rcases R.tab.mok with e | e | e <;> rw [m2, e] at z <;> rw [e] at free <;> omega
      have sz1 : t2.place.size = es1.size := by
        have z := T2.sz
        rw [List.length_map, len1] at z
        rw [z, num1]
      rw [num]
      have go : ∀ M, SetTable.sizeAbove (SetTable.grown (L.length + 1)) - 1 = M → MaskOk M → SetTable.sizeAbove (SetTable.grown (L.length + 1)) ≤ 128 → (L.length + 1) * 5 < M * 3 →
          wpAny (model P w) A (setRelay a (SetTable.grown (L.length + 1))) (fun _ s' => wpAny (model P w) A (pure true) Q E s') E { s with heap := h1 } := fun M g1 g2 g3 g4 =>
        relay (s := { s with heap := h1 }) ho1 ⟨hex.1, hex.2.1, hex.2.2⟩ rfl ins sz1 T2.dm (by rw [num1, m2]; rcases two with ⟨e, e2⟩ | ⟨e, e2⟩ <;> omega) one1 mem1 led1 (by rw [len1]; exact few) g1 g2 g3 (by rw [len1]; exact g4) fun h2 L2 es2 ep2 t3 sb2 R2 pm2 =>
          wpAny_pure (q true h2 L2 es2 ep2 t3 (sb.trans sb2) R2 (fun y => absurd y hm) fun _ => pm2.trans pm)
      have goal : wpAny (model P w) A (setRelay a (SetTable.grown (L.length + 1))) (fun _ s' => wpAny (model P w) A (pure true) Q E s') E { s with heap := h1 } := by
        rcases two with ⟨_, e⟩ | ⟨_, e⟩
        · exact go 31 (by rw [e, size_20]) (.inr (.inl rfl)) (by rw [e, size_20]; decide) (by omega)
        · exact go 127 (by rw [e, size_76]) (.inr (.inr rfl)) (by rw [e, size_76]; decide) (by omega)
      first
        | exact wp_if_pos (by simp [hf]) (wpAny_bind goal)
        | exact wpAny_bind (wp_if_pos (by simp [hf]) goal)
    · have fin := q true h1 L1 es1 (ep + 1) t2 sb ⟨⟨_, ho1, ⟨hex.1, hex.2.1, hex.2.2⟩, rfl⟩, ins, T2, one1, mem1, led1, by rw [len1]; have := mt full.mpr hf; omega, by rw [len1]; exact few⟩ (fun y => absurd y hm) fun _ => pm
      first
        | exact wp_if_neg (by simp [hf]) (wpAny_pure fin)
        | exact wpAny_bind (wp_if_neg (by simp [hf]) (wpAny_pure (wpAny_pure fin)))
  have hb : HbvAt P w 8 s (.ref x) := hbv_key k _ 8 hx.1 hx.2
  have off : TabOk { t1 with plain := false } ((L.map fun p => p.2.hash w).take (SetTable.below t.place (way t.mask (k.hash w) K)) ++ k.hash w :: (L.map fun p => p.2.hash w).drop (SetTable.below t.place (way t.mask (k.hash w) K))) := ⟨p3.ris, p3.dm, p3.sz, p3.mok, p3.bd, p3.reach⟩
  have both : ∀ b : Bool, wpAny (model P w) A (do
        storeSet a (SetTable.insertAt es (SetTable.below t.place (way t.mask (k.hash w) K)) (k.hash w, Value.ref x)) (if b then t1 else { t1 with plain := false })
        if !false && (if b then t1 else { t1 with plain := false }).tooFull then setRelay a (SetTable.grown (es.size + 1))
        return true : Sem Bool) Q E s := fun b => by
    cases b with
    | true => exact rest t1 p3 p4 p5 p9
    | false => exact rest { t1 with plain := false } off p4 p5 p9
  by_cases pl : t1.plain = true
  · first
      | exact wpAny_bind (wp_if_pos pl (hb _ _ _ both))
      | exact wp_if_pos pl (wpAny_bind (hb _ _ _ both))
  · first
      | exact wpAny_bind (wp_if_neg pl (wpAny_pure (both true)))
      | exact wp_if_neg pl (wpAny_bind (wpAny_pure (both true)))
      | exact wp_if_neg pl (both true)
end
end Sd
namespace Sd
open PySem PySem.Spec PyProof.Rows L2
/-! ### set(xs): the loop -/
/-- what the first i keys leave -/
structure Some1 (ks : List (Addr × NK)) (i : Nat) (L : List (Addr × NK)) : Prop where
  sub : ∀ p ∈ L, p ∈ ks.take i
  all : ∀ p ∈ ks.take i, p.2 ∈ L.map (·.2)
  len : L.length ≤ i
theorem some_zero (ks : List (Addr × NK)) : Some1 ks 0 [] := ⟨fun p hp => (by cases hp), fun p hp => (by simp at hp), Nat.le_refl _⟩
theorem some_next {ks L L' : List (Addr × NK)} {i : Nat} {x : Addr × NK} (g : Some1 ks i L) (e : ks[i]? = some x) (same : x.2 ∈ L.map (·.2) → L' = L) (more : x.2 ∉ L.map (·.2) → L'.Perm (x :: L)) : Some1 ks (i + 1) L' := by
  have et : ks.take (i + 1) = ks.take i ++ [x] := by
    rw [List.take_add_one, e]
    rfl
  by_cases c : x.2 ∈ L.map (·.2)
  · rw [same c]
    refine ⟨fun p hp => by rw [et]; exact List.mem_append_left _ (g.sub p hp), fun p hp => ?_, Nat.le_succ_of_le g.len⟩
    rw [et] at hp
    rcases List.mem_append.mp hp with z | z
    · exact g.all p z
    · rw [List.mem_singleton.mp z]
      exact c
  · have pm := more c
    refine ⟨fun p hp => ?_, fun p hp => ?_, by rw [pm.length_eq]; exact Nat.succ_le_succ g.len⟩
    · rw [et]
      rcases List.mem_cons.mp (pm.mem_iff.mp hp) with z | z
      · rw [z]
        exact List.mem_append_right _ (List.mem_singleton.mpr rfl)
      · exact List.mem_append_left _ (g.sub p z)
    · rw [(pm.map (·.2)).mem_iff, List.map_cons]
      rw [et] at hp
      rcases List.mem_append.mp hp with z | z
      · exact List.mem_cons_of_mem _ (g.all p z)
      · rw [List.mem_singleton.mp z]
        exact List.mem_cons_self ..
section
variable {P : Program} {w : World} {A : Around} {E : Value → Shared → Prop} {s : Shared}
theorem Ts.keep {h h' : PySem.Heap} {a : Addr} {L : List (Addr × NK)} {es : Array (Int × Value)} {ep : Nat} {t : SetTable} (R : Ts w h a L es ep t) (ka : ∀ o, h.get? a = some o → h'.get? a = some o) (km : ∀ p ∈ L, Is8 h' p.2 p.1) : Ts w h' a L es ep t := by
  obtain ⟨o, ho, r⟩ := R.obj
  exact ⟨⟨o, ka o ho, r⟩, R.row, R.tab, R.one, km, R.led, R.free, R.few⟩
theorem ts_new {h : PySem.Heap} {a : Addr} (ho : h.get? a = some (Sx.emptyObj w)) : Ts w h a [] #[] 0 (.fresh 0 0 (!w.params.followText "set-order")) where
  obj := ⟨_, ho, ⟨rfl, rfl, rfl⟩, rfl⟩
  row := rfl
  tab := ⟨List.Pairwise.nil, rfl, rfl, .inl rfl, (fun x hx => by cases hx), fun i h j hi => by simp at hi⟩
  one := List.nodup_nil
  mem := fun p hp => nomatch hp
  led := by
    show _ ∨ (!w.params.followText "set-order") = true
    cases w.params.followText "set-order"
    · exact .inr rfl
    · exact .inl rfl
  free := by
    show 0 * 5 < 7 * 3
    decide
  few := by
    show 0 < 64
    decide
theorem fill {I : Addr} {fp wr : List Addr} {G : Array GenState → Array GenState → Prop} {n : Nat} {Pv : Nat → Value → Prop} {St : Nat → Shared → Prop} {R : Result → Shared → Prop} (W : WalksS P w A.in1 I fp wr G n Pv St) (S : Addr) (nS : S ∉ fp) (ks : List (Addr × NK)) (hn : n = ks.length) (few : ks.length < 64)
    (val : ∀ i v, Pv i v → ∃ p, ks[i]? = some p ∧ v = .ref p.1) (h0 : PySem.Heap) (hk : ∀ p ∈ ks, Is8 h0 p.2 p.1) (hS : h0.get? S = none) (hw : ∀ b ∈ wr, h0.get? b = none) (hu : A.in1.units + 8 < cLine) :
    ∀ (r i : Nat) (s : Shared), n - i = r → i ≤ n → St i s → (∀ b o, h0.get? b = some o → s.heap.get? b = some o) → (∃ L es ep t, Ts w s.heap S L es ep t ∧ Some1 ks i L) →
      (∀ s' L es ep t, Moved (S :: wr) G s s' → Ts w s'.heap S L es ep t → Some1 ks n L → (∀ b o, h0.get? b = some o → s'.heap.get? b = some o) → R (.ok (.ret .none)) s') →
      codeAny (model P w) A (.builtin "set.update.loop" ⟨[.ref S, .ref I], []⟩) R s := by
  have nW : S ∉ wr := fun z => nS (W.sub _ z)
  have up : ∀ b ∈ wr, b ∈ S :: wr := fun b hb => List.mem_cons_of_mem _ hb
  have old : ∀ {s s' : Shared}, Moved wr G s s' → (∀ b o, h0.get? b = some o → s.heap.get? b = some o) → ∀ b o, h0.get? b = some o → s'.heap.get? b = some o := fun mv kp b o e => mv.heap b o (fun hb => by rw [hw b hb] at e; cases e) (kp b o e)
  intro r
  induction r with
  | zero =>
    intro i s er hi hst kp ⟨L, es, ep, t, hT, g⟩ fin
    have ei : i = n := by omega
    subst ei
    refine codeAny_builtin F.entry_set_update_loop ?_
    rw [Around.under_plainId F.plain_set_update_loop _]
    show wpAny _ A.in1 (pyNext (.ref I) >>= _) _ _ s
    refine wpAny_bind (W.done s _ _ hst fun s' mv => ?_)
    have kp' := old mv kp
    show wpAny _ A.in1 (ret Value.none) _ _ s'
    exact wpAny_pure (fin s' L es ep t (mv.mono up) (hT.keep (fun o e => mv.heap S o nW e) fun p hp => is8_keep (hk p (List.mem_of_mem_take (g.sub p hp))) kp') g kp')
  | succ r ih =>
    intro i s er hi hst kp ⟨L, es, ep, t, hT, g⟩ fin
    have lt : i < n := by omega
    refine codeAny_builtin F.entry_set_update_loop ?_
    rw [Around.under_plainId F.plain_set_update_loop _]
    show wpAny _ A.in1 (pyNext (.ref I) >>= _) _ _ s
    refine wpAny_bind (W.item i s _ _ lt hst fun v s' hv hst' mv => ?_)
    obtain ⟨p, hp, rfl⟩ := val i v hv
    have kp' := old mv kp
    have hT' : Ts w s'.heap S L es ep t := hT.keep (fun o e => mv.heap S o nW e) fun p hp => is8_keep (hk p (List.mem_of_mem_take (g.sub p hp))) kp'
    have hx : Is8 s'.heap p.2 p.1 := is8_keep (hk p (List.mem_of_getElem? hp)) kp'
    show wpAny _ A.in1 (holding [Value.ref p.1] (setAdd S (.ref p.1)) >>= _) _ _ s'
    unfold setAdd
    refine wpAny_bind (wpAny_holding (wpAny_holding (wpAny_bind ((nestedKind P w).pyHash (show A.in1.units + 8 < cLine from hu) (show (nestedKind P w).is s'.heap p.2 p.1 from hx) ?_))))
    refine add1 (s := { s' with toks := s'.toks + p.2.draws }) hT' hx hu (by have := g.len; omega) fun b h' L' es' ep' t' sb hT2 c1 c2 => ?_
    have g' := some_next g hp c1 c2
    have kp2 : ∀ b o, h0.get? b = some o → h'.get? b = some o := fun b o e => (sb.2 b (fun z => by rw [z, hS] at e; cases e)).trans (kp' b o e)
    refine wpAny_pure ⟨plainId_quiet F.plain_set_update_loop _, ih (i + 1) _ (by omega) lt (W.frame _ s' _ _ hst' (Nat.le_add_right _ _) fun b hb o e => ?_) kp2 ⟨L', es', ep', t', hT2, g'⟩ fun s2 L2 es2 ep2 t2 mv2 hT3 g2 kp3 => ?_⟩
    · rw [sb.2 b (fun z : b = S => nS (by rw [← z]; exact hb))]
      exact e
    · refine fin s2 L2 es2 ep2 t2 (Moved.trans W.gtrans ((mv.mono up).then_heap (Nat.le_add_right _ _) fun b o hb e => ?_) mv2) hT3 g2 kp3
      rw [sb.2 b (fun z : b = S => hb (by rw [z]; exact List.mem_cons_self ..))]
      exact e
end
end Sd
namespace Sd
open PySem PySem.Spec PyProof.Rows L2
section
variable {P : Program} {w : World} {A : Around} {E : Value → Shared → Prop} {s : Shared}
set_option maxRecDepth 100000 in
set_option maxHeartbeats 4000000 in
/-- set(xs), xs a list or a tuple of keys -/
theorem call_setN {l : Addr} {items : Array Value} (ks : List (Addr × NK)) {Q : Value → Shared → Prop} (hh : A.handled = none) (hl : s.heap.IsList l items ∨ s.heap.IsTuple l items) (hit : items.toList = ks.map fun p => Value.ref p.1) (hk : ∀ p ∈ ks, Is8 s.heap p.2 p.1) (few : ks.length < 64) (hu : A.units + 12 < cLine)
    (h : ∀ (h' : PySem.Heap) (tk : Nat) L es ep t, Ts w h' s.heap.objs.size L es ep t → Some1 ks ks.length L → (∀ b o, s.heap.get? b = some o → h'.get? b = some o) → Q (.ref s.heap.objs.size) { s with heap := h', toks := tk }) :
    wpAny (model P w) A (call (.type "set") [.ref l]) Q E s := by
  have hisz : items.size = ks.length := by
    have z := congrArg List.length hit
    rwa [Array.length_toList, List.length_map] at z
  have hval : ∀ (i : Nat) (v : Value), items[i]? = some v → ∃ p, ks[i]? = some p ∧ v = .ref p.1 := fun i v hv => by
    rw [← Array.getElem?_toList, hit, List.getElem?_map] at hv
    cases e : ks[i]? with
    | none =>
      rw [e] at hv
      cases hv
    | some p =>
      rw [e] at hv
      exact ⟨p, rfl, (Option.some.inj hv).symm⟩
  obtain ⟨c, tl, hmro⟩ := PySem.F.called_set.mro
  have hmade := PySem.F.called_set.made
  have hsub := PySem.F.called_set.sub
  refine wpAny_call (codeAny_of_tree ?_)
  show wpAny _ _ (callAny (.type "set") _) _ _ _
  refine wpAny_pure ⟨Code.quiet_builtin _ (by decide +kernel), codeAny_builtin PySem.F.entry_type_call ?_⟩
  rw [Around.under_plain (weight_type_call_type "set" [.ref l] []) rfl]
  have h1 := PySem.F.called_set.notType
  have h2 := PySem.F.called_set.canCreate
  have hct := PySem.F.typeCall_set_1 (.ref l)
  repeat (any_goals (first | assumption | wp_step))
  refine codeAny_mono (code_set_led1 (.ref l) (E := E) (Q₁ := fun obj s₁ => obj = .ref s.heap.objs.size ∧ s₁ = { s with heap := s.heap.push (Sx.emptyObj w) }) ⟨rfl, rfl⟩) fun r s₁ hr => ?_
  cases r with
  | error e => exact hr
  | ok fl =>
    cases fl with
    | ret obj =>
      obtain ⟨rfl, rfl⟩ := hr
      have hS : (s.heap.push (Sx.emptyObj w)).get? s.heap.objs.size = some (Sx.emptyObj w) := Heap.get?_push_size _ rfl
      have hT : Shared.TypeIs { s with heap := s.heap.push (Sx.emptyObj w) } (.ref s.heap.objs.size) "set" := ⟨_, hS, rfl⟩
      have hli := PySem.F.called_set.init.lookup
      have hbi := PySem.F.called_set.init.bind (.ref s.heap.objs.size)
      repeat (any_goals (first | assumption | wp_step))
      refine codeAny_mono (codeAny_call_builtin (R := wants (fun r s₂ => r = .none ∧ ∃ h' tk L es ep t, s₂ = { s with heap := h', toks := tk } ∧ Ts w h' s.heap.objs.size L es ep t ∧ Some1 ks ks.length L ∧
          (∀ b o, s.heap.get? b = some o → h'.get? b = some o)) E) PySem.F.called_set.init.plain PySem.F.entry_set_init (check_set_init_1 hT ?_)) fun r₂ s₂ hr₂ => ?_
      · have hh3 : A.in1.in1.in1.handled = none := by simp [hh]
        have hz1 : (s.heap.push (Sx.emptyObj w)).objs.size = s.heap.objs.size + 1 := Heap.size_push ..
        rcases hl with hl | hl
        · obtain ⟨ol, hol, hcl, nl, hdl⟩ := hl
          obtain ⟨ocls, odict, odata, oslots⟩ := ol
          simp only at hcl hdl
          subst hcl; subst hdl
          have hol' : (s.heap.push (Sx.emptyObj w)).get? l = some { cls := .type "list", dict := odict, data := .seq items nl, slots := oslots } := Heap.get?_push_of_some _ hol
          have hsls := PySem.F.sub_list_set
          have hslf := PySem.F.sub_list_frozenset
          have hne : (Value.type "list" == Value.type "dict") = false := by decide
          have hl1 : (s.heap.push (Sx.emptyObj w)).IsList l items := ⟨_, hol', rfl, nl, rfl⟩
          unfold Builtin.«set.__init__» noKeywords Builtin.Frozenset.updateFrom
          generalize hPI : pyIter = PI
          wp_walk
          subst hPI
          refine wpAny_pyIter_list hl1 ?_
          refine wpAny_bind (wpAny_runValue ?_)
          have hlS : l < s.heap.objs.size := Heap.lt_size hol
          have hneI : l ≠ (s.heap.push (Sx.emptyObj w)).objs.size := by
            rw [hz1]
            exact Nat.ne_of_lt (Nat.lt_succ_of_lt hlS)
          have hSf : s.heap.objs.size ∉ [(s.heap.push (Sx.emptyObj w)).objs.size, l] := by
            simp only [List.mem_cons, List.mem_singleton, List.not_mem_nil, or_false, not_or]
            rw [hz1]
            exact ⟨Nat.ne_of_lt (Nat.lt_succ_self _), Nat.ne_of_gt hlS⟩
          have hget : ((s.heap.push (Sx.emptyObj w)).push { cls := .type "list_iterator", data := .fields #[.ref l, .int 0 0] }).get? s.heap.objs.size = some (Sx.emptyObj w) := Heap.get?_push_of_some _ hS
          refine fill ((Walks.list hh3 _ l hneI items).toS) s.heap.objs.size hSf ks hisz few hval s.heap hk (Heap.get?_none_of_le (Nat.le_refl _)) (fun b hb => ?hw1) (by simp only [Around.in1_units]; omega) (items.size - 0) 0 _ (by omega) (Nat.zero_le _)
            ⟨⟨_, Heap.get?_push_size _ rfl, rfl, rfl⟩, (hl1.push _)⟩ (fun b o e => Heap.get?_push_of_some _ (Heap.get?_push_of_some _ e)) ⟨[], _, _, _, ts_new hget, some_zero ks⟩ ?hR1
          case hw1 =>
            rw [List.mem_singleton.mp hb, hz1]
            exact Heap.get?_none_of_le (Nat.le_succ _)
          case hR1 =>
            intro s' L es ep t hm hS' hmm hkk
            obtain ⟨h', g', d', tk', os'⟩ := s'
            have eg : g' = s.gens := hm.gens
            have ed : d' = s.drawn := hm.drawn
            have eo : os' = s.os := hm.os
            subst eg; subst ed; subst eo
            show wpAny _ _ _ _ _ _
            refine wpAny_pure ?_
            show wpAny _ _ (ret Value.none) _ _ _
            exact wpAny_pure ⟨rfl, h', tk', L, es, ep, t, rfl, hS', hisz ▸ hmm, hkk⟩
        · obtain ⟨ol, hol, hcl, nl, hdl⟩ := hl
          obtain ⟨ocls, odict, odata, oslots⟩ := ol
          simp only at hcl hdl
          subst hcl; subst hdl
          have hol' : (s.heap.push (Sx.emptyObj w)).get? l = some { cls := .type "tuple", dict := odict, data := .seq items nl, slots := oslots } := Heap.get?_push_of_some _ hol
          have hsls := PySem.F.sub_tuple_set
          have hslf := PySem.F.sub_tuple_frozenset
          have hne : (Value.type "tuple" == Value.type "dict") = false := by decide
          have hl1 : (s.heap.push (Sx.emptyObj w)).IsTuple l items := ⟨_, hol', rfl, nl, rfl⟩
          unfold Builtin.«set.__init__» noKeywords Builtin.Frozenset.updateFrom
          generalize hPI : pyIter = PI
          wp_walk
          subst hPI
          refine wpAny_pyIter_tuple hl1 ?_
          refine wpAny_bind (wpAny_runValue ?_)
          have hlS : l < s.heap.objs.size := Heap.lt_size hol
          have hneI : l ≠ (s.heap.push (Sx.emptyObj w)).objs.size := by
            rw [hz1]
            exact Nat.ne_of_lt (Nat.lt_succ_of_lt hlS)
          have hSf : s.heap.objs.size ∉ [(s.heap.push (Sx.emptyObj w)).objs.size, l] := by
            simp only [List.mem_cons, List.mem_singleton, List.not_mem_nil, or_false, not_or]
            rw [hz1]
            exact ⟨Nat.ne_of_lt (Nat.lt_succ_self _), Nat.ne_of_gt hlS⟩
          have hget : ((s.heap.push (Sx.emptyObj w)).push { cls := .type "tuple_iterator", data := .fields #[.ref l, .int 0 0] }).get? s.heap.objs.size = some (Sx.emptyObj w) := Heap.get?_push_of_some _ hS
          refine fill ((Walks.tuple hh3 _ l hneI items).toS) s.heap.objs.size hSf ks hisz few hval s.heap hk (Heap.get?_none_of_le (Nat.le_refl _)) (fun b hb => ?hw2) (by simp only [Around.in1_units]; omega) (items.size - 0) 0 _ (by omega) (Nat.zero_le _)
            ⟨⟨_, Heap.get?_push_size _ rfl, rfl, rfl⟩, (hl1.push _)⟩ (fun b o e => Heap.get?_push_of_some _ (Heap.get?_push_of_some _ e)) ⟨[], _, _, _, ts_new hget, some_zero ks⟩ ?hR2
          case hw2 =>
            rw [List.mem_singleton.mp hb, hz1]
            exact Heap.get?_none_of_le (Nat.le_succ _)
          case hR2 =>
            intro s' L es ep t hm hS' hmm hkk
            obtain ⟨h', g', d', tk', os'⟩ := s'
            have eg : g' = s.gens := hm.gens
            have ed : d' = s.drawn := hm.drawn
            have eo : os' = s.os := hm.os
            subst eg; subst ed; subst eo
            show wpAny _ _ _ _ _ _
            refine wpAny_pure ?_
            show wpAny _ _ (ret Value.none) _ _ _
            exact wpAny_pure ⟨rfl, h', tk', L, es, ep, t, rfl, hS', hisz ▸ hmm, hkk⟩
      · cases r₂ with
        | error e => exact hr₂
        | ok fl₂ =>
          cases fl₂ with
          | ret r =>
            obtain ⟨rfl, h', tk, L, es, ep, t, rfl, hS', hmm, hk'⟩ := hr₂
            repeat (any_goals (first | assumption | wp_step))
            exact h _ _ _ _ _ _ hS' hmm hk'
          | _ => exact hr₂.elim
    | _ => exact hr.elim
end
end Sd
/-! Sorting tuples of alike data, the empty tuple among them. -/
namespace Sd
open PySem PySem.Spec PyProof.Rows L2 PySem.W PySem.Calls
open PySem.SeqAt
def more : PyData → Bool
  | .tuple (_ :: _) => true
  | _ => false
section
variable {P : Program} {w : World} {A : Around} {E : Value → Shared → Prop} {s : Shared}
theorem call_tuple_lt {Q : Value → Shared → Prop} {l b : Addr} {items items2 : Array Value} {e r : Nat → Bool} (hl : s.heap.IsTuple l items) (hb : s.heap.IsTuple b items2)
    (he : ∀ j (h1 : j < items.size) (h2 : j < items2.size), EqAt A.in1 s items[j] items2[j] (e j)) (hr : ∀ j (h1 : j < items.size) (h2 : j < items2.size), e j = false → RcLt A.in1 s items[j] items2[j] (r j))
    (h : Q (.bool (firstLt e r (decide (items.size < items2.size)) (List.range (min items.size items2.size)))) s) : wpAny (model P w) A (call (.builtin "tuple.__lt__") [.ref l, .ref b]) Q E s := by
  obtain ⟨⟨cls, dd, data, sl⟩, ho, hc, n, hd⟩ := id hl
  obtain ⟨⟨cls2, dd2, data2, sl2⟩, ho2, hc2, n2, hd2⟩ := id hb
  simp only at hc hd hc2 hd2
  subst hc hd hc2 hd2
  exact call_meets F.slot_tuple_lt ⟨_, ho, rfl⟩ F.entry_tuple_lt (F.args_tuple_lt_2 _ _) (tuple_ltAt l b items items2 n n2 dd dd2 sl sl2 e r) ⟨ho, ho2, he, hr, h⟩
theorem oneLt_tup {xs ys : List PyData} {a b : Value} {as bs : List Addr} {Q : Bool → Shared → Prop} (ra : PySem.Reads s.heap a (.tuple xs) as) (rb : PySem.Reads s.heap b (.tuple ys) bs) (h : alike (.tuple xs) (.tuple ys) = true)
    (hu : A.units + min (PyData.tuple xs).depth (PyData.tuple ys).depth < cLine) (hq : Q (dataLt (.tuple xs) (.tuple ys)) s) : wpAny (model P w) A (oneLt' true a b) Q E s := by
  have hal : alikeAll xs ys = true := by simpa [alike] using h
  cases ra with
  | @tuple l o vs n _ as₁ h1 h2 h3 h4 =>
    cases rb with
    | @tuple l' o' vs' n' _ bs₁ k1 k2 k3 k4 =>
      have n1 : vs.size = xs.length := by simpa using SeqAt.ReadsAll.length _ _ _ h4
      have n2 : vs'.size = ys.length := by simpa using SeqAt.ReadsAll.length _ _ _ k4
      rw [dataLt_tuple, ← firstLt_toks xs ys hal, ← n1, ← n2] at hq
      rw [oneLt'_eq]
      simp only [if_true]
      refine wpAny_bind (wpAny_cRoomFor (room_here hu) ?_)
      refine wpAny_bind (wpAny_callSpecialIfBound?_slot (T := "tuple") ⟨_, h1, h2⟩ F.slot_tuple_lt (call_tuple_lt (e := pairEq xs ys) (r := fun j => dataLt (xs.getD j .none) (ys.getD j .none)) ⟨_, h1, h2, _, h3⟩ ⟨_, k1, k2, _, k3⟩ (fun j j1 j2 => ?_) (fun j j1 j2 hj => ?_) ?_))
      · have := eqAt_alikeAll xs ys A.in1 s vs.toList vs'.toList _ _ h4 k4 hal (room_in hu) j (by simpa using j1) (by simpa using j2)
        simpa using this
      · have := rcLt_alikeAll xs ys A.in1 s vs.toList vs'.toList _ _ h4 k4 hal (room_in hu) j (by simpa using j1) (by simpa using j2) hj
        simpa using this
      · exact wpAny_truthy_bool hq
theorem firsts {M : Model} {A : Around} {E : Value → Shared → Prop} {s : Shared} : ∀ {vs : List Value} {ds : List PyData}, EachIs (fun v d => ∃ as, PySem.Reads s.heap v d as) vs ds → (∀ d ∈ ds, ∃ xs, d = .tuple xs) → ∀ {Q : List (Option Value) → Shared → Prop}, (∀ os : List (Option Value), os.map (·.isSome) = ds.map more → Q os s) → wpAny M A (vs.mapM firstOfTuple') Q E s
  | _, _, .nil, _, _, h => by
    rw [List.mapM_nil]
    exact wpAny_pure (h [] rfl)
  | _, _, .cons (a := v) (b := d) (as := vs) (bs := ds) ⟨as, r⟩ t, ht, Q, h => by
    obtain ⟨xs, rfl⟩ := ht d (List.mem_cons_self ..)
    cases r with
    | @tuple a o us n _ _ ho hc hd hr =>
      rw [List.mapM_cons]
      refine wpAny_bind ?_
      rw [kas_first_eq]
      refine wpAny_bind (Looks.here (show Looks M s.heap (typeOf (.ref a)) o.cls from (Looks.ld ho).andThen .now) ?_)
      rw [hc, if_neg (by first | decide | simp)]
      refine wpAny_bind (listItems_at ho hd (wpAny_pure ?_))
      refine wpAny_bind (firsts t (fun d hd => ht d (List.mem_cons_of_mem _ hd)) fun os eos => wpAny_pure (h _ ?_))
      have hn : us.size = xs.length := by simpa using SeqAt.ReadsAll.length _ _ _ hr
      have e1 : (us[0]?).isSome = more (.tuple xs) := by
        cases xs with
        | nil =>
          have z : us.size = 0 := hn
          rw [Array.getElem?_eq_none (by omega)]
          rfl
        | cons x xs =>
          have z : 0 < us.size := by
            rw [hn]
            exact Nat.succ_pos _
          rw [Array.getElem?_eq_getElem z]
          rfl
      rw [List.map_cons, List.map_cons, eos, e1]
theorem kind_of {M : Model} {A : Around} {E : Value → Shared → Prop} {s : Shared} {vs : List Value} {ds : List PyData} (e : EachIs (fun v d => ∃ as, PySem.Reads s.heap v d as) vs ds) (ht : ∀ d ∈ ds, ∃ xs, d = .tuple xs) (hne : ds.all more = false) {Q : SortKind → Shared → Prop}
    (h : Q (if (ds.map more).head? = some true then general' else oneType') s) : wpAny M A (keyKind' vs.toArray) Q E s := by
  rw [kat_kind_eq, List.mapM_toArray, map_eq_pure_bind]
  refine wpAny_bind (wpAny_bind (firsts e ht fun os eos => wpAny_pure ?_))
  have h1 : (os.toArray.all fun x => x.isSome) = false := by
    rw [List.all_toArray]
    have z : os.all (fun x => x.isSome) = (os.map (·.isSome)).all id := by
      rw [List.all_map]
      rfl
    rw [z, eos, List.all_map]
    exact hne
  rw [if_neg (by rw [h1]; exact Bool.false_ne_true)]
  have h2 : ((os.toArray[0]?).bind id).isSome = true ↔ (ds.map more).head? = some true := by
    rw [← eos]
    cases os with
    | nil => simp
    | cons o os =>
      cases o <;> simp
  by_cases c : (ds.map more).head? = some true
  · rw [if_pos c] at h
    rw [if_pos (h2.mpr c)]
    exact wpAny_pure h
  · rw [if_neg c] at h
    rw [if_neg (fun z => c (h2.mp z))]
    have hT : ∀ v ∈ vs, Looks M s.heap (typeOf v) (Value.type "tuple") := fun v hv => by
      obtain ⟨d, hd, as, r⟩ := e.left v hv
      obtain ⟨xs, rfl⟩ := ht d hd
      exact looks_reads r
    have hv : vs ≠ [] := by
      rintro rfl
      cases e
      exact absurd hne (by decide)
    rw [oneTypeOnly'_eq, List.mapM_toArray, map_eq_pure_bind]
    refine wpAny_bind (wpAny_bind (wpAny_bind (kas_mapM (r := Value.type "tuple") _ (fun v hv Q' hq => (hT v hv).here hq) (wpAny_pure ?_))))
    have hall2 : ((List.map (fun _ => Value.type "tuple") vs).toArray.all fun x => x == Value.type "tuple") = true := by
      simp only [List.all_toArray, List.all_map, List.all_eq_true]
      intro _ _
      rfl
    have h0 : (List.map (fun _ => Value.type "tuple") vs).toArray[0]? = some (Value.type "tuple") := by
      cases vs with
      | nil => exact absurd rfl hv
      | cons v vs => simp
    rw [h0]
    simp only [hall2, if_true]
    exact wpAny_pure (wpAny_pure h)
theorem sorts_tups {vs : List Value} {ds : List PyData} (e : EachIs (fun v d => ∃ as, PySem.Reads s.heap v d as) vs ds) (hal : AllAlike ds) (ht : ∀ d ∈ ds, ∃ xs, d = .tuple xs) (hu : ∀ d, d ∈ ds → A.units + d.depth < cLine) : SortsAt P w A s (dataKind s.heap ds) vs := by
  have room : ∀ {d d' : PyData}, d ∈ ds → A.units + min d.depth d'.depth < cLine := fun {d d'} hd => Nat.lt_of_le_of_lt (Nat.add_le_add_left (Nat.min_le_left _ _) _) (hu d hd)
  by_cases hne : ds.all more = true
  · refine SortsAt.data e hal (.inl fun d hd => ?_) hu
    have z := List.all_eq_true.mp hne d hd
    obtain ⟨xs, rfl⟩ := ht d hd
    cases xs with
    | nil => exact absurd z (by decide)
    | cons x xs => exact ⟨x, xs, rfl⟩
  · refine ⟨fun v hv => ?_, if (ds.map more).head? = some true then general' else oneType', ?_, fun _ E Q hq => kind_of e ht (by simpa using hne) hq⟩
    · obtain ⟨d, hd, as, r⟩ := e.left v hv
      exact ⟨_, dataKind_some hal hd r⟩
    · intro E x y a b Q ha hb hq
      obtain ⟨d, as, hd, ra, rfl⟩ := dataKind_inv ha
      obtain ⟨d', as', hd', rb, rfl⟩ := dataKind_inv hb
      have hdd := hal d hd d' hd'
      have hroom := room (d' := d') hd
      obtain ⟨xs, rfl⟩ := ht d hd
      obtain ⟨ys, rfl⟩ := ht d' hd'
      by_cases c : (ds.map more).head? = some true
      · rw [if_pos c]
        show wpAny (model P w) A (oneLt' false x y) Q E s
        exact oneLt_alike (fun z => nomatch z) ra rb hdd (fun z => nomatch z) hroom hq
      · rw [if_neg c, keyLt'_oneType]
        exact oneLt_tup ra rb hdd hroom hq
variable {β : Type} {vs : List Value} {bs : List β} {enc : β → PyData} {R : Value → β → Prop}
/-- xs.sort() -/
theorem list_sort_tups {a : Addr} {n : Nat} {Q : Value → Shared → Prop} (ho : s.heap.get? a = some (seqObj "list" vs.toArray n)) (e : EachIs R vs bs) (er : EachIs (fun v b => ∃ as, PySem.Reads s.heap v (enc b) as ∧ a ∉ as) vs bs) (hal : AllAlike (bs.map enc)) (ht : ∀ b ∈ bs, ∃ xs, enc b = .tuple xs) (hL : bs.length ≤ sizeLine)
    (hu : ∀ b, b ∈ bs → A.units + 1 + (enc b).depth < cLine) (h : ∀ out, out.length = bs.length → EachIs R out (bs.mergeSort (dataLe false enc)) → Q .none { s with heap := sortedHeap s.heap a vs (List.toArray out) }) :
    wpAny (model P w) A (call (.builtin "list.sort") [.ref a]) Q E s := by
  have er' : EachIs (fun v b => ∃ as, PySem.Reads (sortingHeap s.heap a vs) v (enc b) as) vs bs := each_keepBut (h' := sortingHeap s.heap a vs) (fun _ _ hb q => sortingHeap_old hb q) (fun o q => by rw [ho] at q; rw [← Option.some.inj q]) hal er
  refine wpAny_call_entry slot_list_sort ⟨_, ho, rfl⟩ entry_list_sort (list_sort_vals (κ := dataKind (sortingHeap s.heap a vs) (bs.map enc)) ho (sorts_tups (s := { s with heap := sortingHeap s.heap a vs }) (each_map (R := fun v d => ∃ as, PySem.Reads (sortingHeap s.heap a vs) v d as) enc er') hal (fun d hd => ?_) (bound_map hu)) (by rw [e.length]; exact hL) ⟨.none, rfl, ?_⟩) (args_list_sort _)
  · obtain ⟨b, hb, rfl⟩ := List.mem_map.mp hd
    exact ht b hb
  · exact h _ (by rw [sortVals_length false rfl]; exact e.length) (sortVals_data false e er' hal)
end
end Sd
/-! Sets of nested tuples over the layer: set(xs), sorted(set). -/
namespace Sd
open PySem PySem.Spec PyProof.Rows L2 Bx TL Dx PySem.W PySem.Calls
mutual
/-- the key that a datum is -/
def nk : PyData → NK
  | .int i => .num i
  | .str x => .text x
  | .tuple xs => .tup (nks xs)
  | _ => .none
def nks : List PyData → List NK
  | [] => []
  | d :: ds => nk d :: nks ds
end
mutual
/-- made of whole numbers, texts and tuples -/
def plain : PyData → Bool
  | .int _ => true
  | .str _ => true
  | .tuple xs => plains xs
  | _ => false
def plains : List PyData → Bool
  | [] => true
  | d :: ds => plain d && plains ds
end
mutual
theorem nk_inj : ∀ (d e : PyData), plain d = true → plain e = true → nk d = nk e → d = e
  | .int i, e, _, he, h => by
    cases e <;> first | (simp only [nk] at h; cases h; rfl) | (simp only [nk] at h; cases h; done) | (simp only [plain] at he; cases he; done)
  | .str i, e, _, he, h => by
    cases e <;> first | (simp only [nk] at h; cases h; rfl) | (simp only [nk] at h; cases h; done) | (simp only [plain] at he; cases he; done)
  | .tuple xs, e, hd, he, h => by
    cases e with
    | tuple ys =>
      simp only [nk, NestedKey.tup.injEq] at h
      simp only [plain] at hd he
      rw [nks_inj xs ys hd he h]
    | _ => first | (simp only [nk] at h; cases h; done) | (simp only [plain] at he; cases he; done)
  | .none, _, hd, _, _ => by simp [plain] at hd
  | .bool _, _, hd, _, _ => by simp [plain] at hd
  | .list _, _, hd, _, _ => by simp [plain] at hd
  | .dict _, _, hd, _, _ => by simp [plain] at hd
theorem nks_inj : ∀ (ds es : List PyData), plains ds = true → plains es = true → nks ds = nks es → ds = es
  | [], [], _, _, _ => rfl
  | [], _ :: _, _, _, h => by simp [nks] at h
  | _ :: _, [], _, _, h => by simp [nks] at h
  | d :: ds, e :: es, hd, he, h => by
    simp only [nks, List.cons.injEq] at h
    simp only [plains, Bool.and_eq_true] at hd he
    rw [nk_inj d e hd.1 he.1 h.1, nks_inj ds es hd.2 he.2 h.2]
end
mutual
theorem is_nk {h : PySem.Heap} : ∀ (d : PyData) (v : Value) (as : List Addr), plain d = true → PySem.Reads h v d as → NestedIs h (nk d) v ∧ as = []
  | .int _, _, _, _, r => by
    cases r
    exact ⟨.int _ _, rfl⟩
  | .str _, _, _, _, r => by
    cases r
    exact ⟨.text _ _, rfl⟩
  | .tuple xs, _, _, hd, r => by
    simp only [plain] at hd
    cases r with
    | tuple h1 h2 h3 h4 =>
      obtain ⟨q1, q2⟩ := is_nks xs _ _ hd h4
      exact ⟨.tup h1 h2 h3 q1, q2⟩
  | .none, _, _, hd, _ => by simp [plain] at hd
  | .bool _, _, _, hd, _ => by simp [plain] at hd
  | .list _, _, _, hd, _ => by simp [plain] at hd
  | .dict _, _, _, hd, _ => by simp [plain] at hd
theorem is_nks {h : PySem.Heap} : ∀ (ds : List PyData) (vs : List Value) (as : List Addr), plains ds = true → PySem.ReadsAll h vs ds as → NestedAll h (nks ds) vs ∧ as = []
  | [], _, _, _, r => by
    cases r
    exact ⟨.nil, rfl⟩
  | d :: ds, _, _, hd, r => by
    simp only [plains, Bool.and_eq_true] at hd
    cases r with
    | cons r1 r2 =>
      obtain ⟨q1, q2⟩ := is_nk d _ _ hd.1 r1
      obtain ⟨q3, q4⟩ := is_nks ds _ _ hd.2 r2
      exact ⟨.cons q1 q3, by rw [q2, q4]; rfl⟩
end
/-- a tuple made of such data, not deep -/
def K8 (d : PyData) : Prop := (∃ xs, d = .tuple xs) ∧ plain d = true ∧ (nk d).depth ≤ 8 ∧ d.depth ≤ 60
theorem perm_each {α β : Type} {R : α → β → Prop} {out its : List α} (pm : out.Perm its) : ∀ {ds : List β}, EachIs R its ds → ∃ es : List β, es.Perm ds ∧ EachIs R out es := by
  induction pm with
  | nil => exact fun e => ⟨_, List.Perm.refl _, e⟩
  | cons x p ih =>
    intro ds e
    cases e with
    | cons h t =>
      obtain ⟨es, q1, q2⟩ := ih t
      exact ⟨_ :: es, q1.cons _, .cons h q2⟩
  | swap x y l =>
    intro ds e
    cases e with
    | cons h t =>
      cases t with
      | cons h2 t2 => exact ⟨_ :: _ :: _, List.Perm.swap _ _ _, .cons h2 (.cons h t2)⟩
  | trans p q ih1 ih2 =>
    intro ds e
    obtain ⟨es, a1, a2⟩ := ih2 e
    obtain ⟨fs, b1, b2⟩ := ih1 a2
    exact ⟨fs, b1.trans a1, b2⟩
section
variable {P : Program} {w : World} {A : Around} {E : Value → Shared → Prop} {s : Shared} {a : Addr} {L : List (Addr × NK)} {es : Array (Int × Value)} {ep : Nat} {t : SetTable}
theorem sorted_setN {Rl : Value → PyData → Prop} {ds : List PyData} {Q : Value → Shared → Prop} (T : Ts w s.heap a L es ep t) (hh : A.handled = none) (hu : A.units + 65 < cLine)
    (e : EachIs Rl (L.map fun p => Value.ref p.1) ds) (er : EachIs (fun u d => ∃ as, PySem.Reads s.heap u d as) (L.map fun p => Value.ref p.1) ds) (hal : AllAlike ds) (hk : ∀ d ∈ ds, K8 d)
    (hQ : ∀ s' p (out : List Value) (c : Nat) (fs : List PyData), (∀ b o, s.heap.get? b = some o → s'.heap.get? b = some o) → s'.gens = s.gens → s'.os = s.os → s.heap.objs.size ≤ p →
      s'.heap.get? p = some (seqObj "list" out.toArray c) → fs.Perm ds → EachIs Rl out (fs.mergeSort (dataLe false id)) → Q (.ref p) s') :
    wpAny (model P w) A (call (.builtin "sorted") [.ref a]) Q E s := by
  obtain ⟨o, ho, hex, hd⟩ := T.obj
  have hn := T.num
  have hfew := T.few
  have hsb : scanBound = 4096 := rfl
  have hva : es.toList.map (·.2) = L.map fun p => Value.ref p.1 := by
    rw [T.row, List.map_map]
    rfl
  refine Calls.call_function_entry kind_sorted plain_sorted entry_sorted (args_sorted1 _) ?_
  unfold Builtin.«sorted»
  refine wpAny_bind (m := checkCount "sorted" 1 1 _) (wpAny_pure ?_)
  refine wpAny_bind (collect_set (A := A.in1) hh ⟨_, ho, hex.1, hd⟩ T.fit (by rw [hn]; omega) T.tab.ris T.led fun s1 vs k1 hz g1 o1 pm => ?_)
  rw [hva] at pm
  have both : EachIs (fun u d => Rl u d ∧ ∃ as, PySem.Reads s.heap u d as) (L.map fun p => Value.ref p.1) ds := by
    clear hQ hal hk hva
    revert e er
    generalize (L.map fun p => Value.ref p.1) = us
    intro e er
    clear pm
    induction e with
    | nil => exact .nil
    | cons h t ih =>
      cases er with
      | cons r1 r2 => exact .cons ⟨h, r1⟩ (ih r2)
  obtain ⟨fs, pf, ef⟩ := perm_each pm both
  have hfl : fs.length = L.length := by rw [pf.length_eq, ← e.length, List.length_map]
  have hvl : vs.length = L.length := by rw [pm.length_eq, List.length_map]
  have hline : vs.length ≤ sizeLine := by
    rw [hvl, sizeLine_eq]
    omega
  refine wpAny_bind (wpAny_newList ?_ hline)
  have hoL : (s1.heap.push (seqObj "list" vs.toArray 0)).get? s1.heap.objs.size = some (seqObj "list" vs.toArray 0) := Heap.get?_push_size _ rfl
  have mfs : ∀ d ∈ fs, d ∈ ds := fun d hd => pf.mem_iff.mp hd
  have kp : ∀ b u, s.heap.get? b = some u → (s1.heap.push (seqObj "list" vs.toArray 0)).get? b = some u := fun b u q => Heap.get?_push_of_some _ (k1 b u q)
  refine wpAny_bind (wpAny_holding (list_sort_tups (R := Rl) (enc := id) (bs := fs) hoL (ef.mono fun _ _ z => z.1) ?reads (by rw [List.map_id]; exact fun d hd d' hd' => hal d (mfs d hd) d' (mfs d' hd')) (fun d hd => (hk d (mfs d hd)).1) (by rw [hfl, sizeLine_eq]; omega) (fun d hd => ?room) fun out hout eo => ?done))
  case reads =>
    refine (each_mem ef).mono fun u d z => ?_
    obtain ⟨as, r⟩ := z.1.2
    have z0 := (is_nk d u as (hk d (mfs d z.2)).2.1 r).2
    exact ⟨as, PyProof.Rows.Reads.keeps kp r, by rw [z0]; exact List.not_mem_nil⟩
  case room =>
    have z := (hk d (mfs d hd)).2.2.2
    show A.in1.units + 1 + d.depth < cLine
    simp only [Around.in1_units]
    omega
  case done =>
    obtain ⟨c, hc⟩ := sortedHeap_at (vs := vs) (out := out.toArray) hoL
    refine wpAny_pure ⟨_, rfl, hQ _ s1.heap.objs.size out c fs (fun b u q0 => ?_) g1 o1 hz hc pf eo⟩
    have q := k1 b u q0
    have hlt := Heap.lt_size q
    show (sortedHeap (s1.heap.push (seqObj "list" vs.toArray 0)) s1.heap.objs.size vs _).get? b = some u
    rw [sortedHeap_old (Nat.ne_of_lt hlt) (by rw [size_push']; exact Nat.lt_succ_of_lt hlt)]
    exact Heap.get?_push_of_some _ q
end
/-! ### over the layer -/
def SetN (w : World) (a : Addr) (L : List (Addr × NK)) : HO := .ext fun h => ∃ h0 es ep t, Ts w h0 a L es ep t ∧ ∀ o, h0.get? a = some o → h.get? a = some o
section
variable {X : Cx} {pins : List (Addr × Obj)} {σ : L2.St} {H : Hp} {s : Shared}
theorem setN_ok {P : Program} {w : World} {h : PySem.Heap} {a : Addr} {L : List (Addr × NK)} {es : Array (Int × Value)} {ep : Nat} {t : SetTable} (R : Ts w h a L es ep t) : ObjOk P w H h a (SetN w a L) := by
  obtain ⟨o, ho, _⟩ := R.obj
  exact ⟨⟨h, es, ep, t, R, fun _ z => z⟩, ⟨_, ho⟩, fun h1 h2 ⟨h0, es, ep, t, p, k⟩ k2 => ⟨h0, es, ep, t, p, fun o z => k2 o (k o z)⟩⟩
theorem keys_of (I : Inv X pins σ H s) : ∀ {xs : List V} {us : List Value} {ds : List PyData}, DpAll X.K H xs ds → Vals xs us → (∀ d ∈ ds, K8 d) →
    ∃ ks : List (Addr × NK), us = ks.map (fun p => Value.ref p.1) ∧ ks.map (·.2) = ds.map nk ∧ (∀ p ∈ ks, Is8 s.heap p.2 p.1) ∧ ∀ p ∈ ks, ∃ d ∈ ds, p.2 = nk d ∧ Dp X.K H (V.ref p.1) d
  | [], [], [], _, _, _ => ⟨[], rfl, rfl, fun p hp => (by cases hp), fun p hp => (by cases hp)⟩
  | x :: xs, u :: us, d :: ds, h, r, hk => by
    cases h with
    | cons h1 h2 =>
      cases r with
      | cons r1 r2 =>
        obtain ⟨ks, q1, q2, q3, q4⟩ := keys_of I h2 r2 fun d hd => hk d (List.mem_cons_of_mem _ hd)
        obtain ⟨⟨ys, rfl⟩, k1, k2, k3⟩ := hk d (List.mem_cons_self ..)
        obtain ⟨as, rd⟩ := Dp.reads I _ _ _ h1 r1
        obtain ⟨b, zs, rfl, _⟩ := dp_tup h1
        have eu : u = Value.ref b := by
          cases r1
          rfl
        subst eu
        refine ⟨(b, nk (.tuple ys)) :: ks, by rw [q1]; rfl, by rw [List.map_cons, List.map_cons, q2], fun p hp => ?_, fun p hp => ?_⟩
        · rcases List.mem_cons.mp hp with z | z
          · rw [z]
            exact ⟨(is_nk _ _ _ k1 rd).1, k2⟩
          · exact q3 p z
        · rcases List.mem_cons.mp hp with z | z
          · rw [z]
            exact ⟨_, List.mem_cons_self .., rfl, h1⟩
          · obtain ⟨e, e1, e2⟩ := q4 p z
            exact ⟨e, List.mem_cons_of_mem _ e1, e2⟩
  | [], _ :: _, _, _, r, _ => by cases r
  | _ :: _, [], _, _, r, _ => by cases r
  | [], [], _ :: _, h, _, _ => by cases h
  | _ :: _, _ :: _, [], h, _, _ => by cases h
theorem nodup_of {α β : Type} (f : α → β) : ∀ {l : List α}, (l.map f).Nodup → l.Nodup
  | [], _ => List.nodup_nil
  | x :: l, h => by
    rw [List.map_cons, List.nodup_cons] at h
    exact List.nodup_cons.mpr ⟨fun z => h.1 (List.mem_map.mpr ⟨x, z, rfl⟩), nodup_of f h.2⟩
theorem pairs_same {α β : Type} : ∀ {l m : List (α × β)}, l.map (·.1) = m.map (·.1) → l.map (·.2) = m.map (·.2) → l = m
  | [], [], _, _ => rfl
  | [], _ :: _, h, _ => by simp at h
  | _ :: _, [], h, _ => by simp at h
  | (a, b) :: l, (c, d) :: m, h, g => by
    simp only [List.map_cons, List.cons.injEq] at h g
    rw [h.1, g.1, pairs_same h.2 g.2]
theorem pick {K : PySem.W.Frag} {ds : List PyData} : ∀ (L : List (Addr × NK)), (∀ p ∈ L, ∃ d ∈ ds, p.2 = nk d ∧ Dp K H (V.ref p.1) d) → ∃ es : List PyData, DpAll K H (L.map fun p => V.ref p.1) es ∧ L.map (·.2) = es.map nk ∧ ∀ d ∈ es, d ∈ ds
  | [], _ => ⟨[], .nil, rfl, fun d hd => (by cases hd)⟩
  | p :: L, h => by
    obtain ⟨es, q1, q2, q3⟩ := pick L fun p hp => h p (List.mem_cons_of_mem _ hp)
    obtain ⟨d, d1, d2, d3⟩ := h p (List.mem_cons_self ..)
    refine ⟨d :: es, .cons d3 q1, by rw [List.map_cons, List.map_cons, q2, d2], fun e he => ?_⟩
    rcases List.mem_cons.mp he with z | z
    · rw [z]
      exact d1
    · exact q3 e z
/-- set(xs), xs a list or a tuple of such tuples -/
def rSetN (K : PySem.W.Frag) (w : World) : List V → Hp → VK → Prop := fun vs H Q => ∃ (a : Addr) (xs : List V) (ds : List PyData), vs = [V.ref a] ∧ (SqL K H a xs ∨ SqT K H a xs) ∧ DpAll K H xs ds ∧ (∀ d ∈ ds, K8 d) ∧ ds.length < 64 ∧
  ∀ p L es, H p = none → DpAll K H (L.map fun q => V.ref q.1) es → L.map (·.2) = es.map nk → es.Nodup → (∀ d, d ∈ es ↔ d ∈ ds) → es.length ≤ ds.length → Q (.ref p) (upd H p (SetN w p L))
theorem cr_setN {w : World} (hc : X.calm = true) (hw : X.w = w) (hu : X.A.units + 65 < cLine) : CallR X (.type "set") (rSetN X.K w) := by
  subst hw
  intro pins s σ H vs us Q I r h
  obtain ⟨a, xs, ds, rfl, hs, hd, hk, hlen, q⟩ := h
  rw [Vals.ref1 r]
  have hn : H s.heap.objs.size = none := I.hok.fresh (Nat.le_refl _)
  obtain ⟨its, rv, pl⟩ : ∃ its : List Value, Vals xs its ∧ (s.heap.IsList a its.toArray ∨ s.heap.IsTuple a its.toArray) := by
    rcases hs with hs | hs
    · obtain ⟨its, rv, pl, _⟩ := I.list hs
      exact ⟨its, rv, .inl pl.isList⟩
    · obtain ⟨its, rv, pl, _⟩ := I.tuple hs
      exact ⟨its, rv, .inr pl⟩
  obtain ⟨ks, e1, e2, e3, e4⟩ := keys_of I hd rv hk
  have hkl : ks.length = ds.length := by
    have z := congrArg List.length e2
    rwa [List.length_map, List.length_map] at z
  refine call_setN (P := X.prog) (w := X.w) ks (I.ok.hd hc) pl (by simpa using e1) e3 (by omega) (by omega) fun h' tk L es ep t T sm k => ?_
  obtain ⟨fs, f1, f2, f3⟩ := pick L fun p hp => e4 p (List.mem_of_mem_take (sm.sub p hp))
  have inj : ∀ d ∈ ds, ∀ d' ∈ ds, nk d = nk d' → d = d' := fun d hd d' hd' e => nk_inj d d' (hk d hd).2.1 (hk d' hd').2.1 e
  refine ⟨.ref s.heap.objs.size, upd H s.heap.objs.size (SetN X.w s.heap.objs.size L), I.laid (t' := tk) k (Nat.le_refl _) (setN_ok T), rfl, q _ L fs hn f1 f2 ?_ (fun d => ⟨f3 d, fun hd => ?_⟩) ?_⟩
  · have z := T.one
    rw [f2] at z
    exact nodup_of nk z
  · have z : nk d ∈ ks.map (·.2) := by
      rw [e2]
      exact List.mem_map.mpr ⟨d, hd, rfl⟩
    obtain ⟨p, hp, ep⟩ := List.mem_map.mp z
    have z2 := sm.all p (by rw [List.take_length]; exact hp)
    rw [f2, ep] at z2
    obtain ⟨d', hd', e'⟩ := List.mem_map.mp z2
    rw [← inj d' (f3 d' hd') d hd e']
    exact hd'
  · have z := sm.len
    have z2 := congrArg List.length f2
    rw [List.length_map, List.length_map] at z2
    omega
theorem refs_vals : ∀ (L : List (Addr × NK)), Vals (L.map fun q => V.ref q.1) (L.map fun q => Value.ref q.1)
  | [] => .nil
  | _ :: L => .cons rfl (refs_vals L)
/-- sorted(a set of such tuples) -/
def rSortN (K : PySem.W.Frag) (w : World) : List V → Hp → VK → Prop := fun vs H Q => ∃ (a : Addr) (L : List (Addr × NK)) (ds : List PyData), vs = [V.ref a] ∧ H a = some (SetN w a L) ∧ DpAll K H (L.map fun q => V.ref q.1) ds ∧ L.map (·.2) = ds.map nk ∧ AllAlike ds ∧ (∀ d ∈ ds, K8 d) ∧ ds.length < 64 ∧
  ∀ (ys : List V) (fs : List PyData) (p : Addr), H p = none → fs.Perm ds → DpAll K H ys (fs.mergeSort So.dle) → Q (.ref p) (upd H p (.lst ys))
theorem cr_sortN {w : World} (hc : X.calm = true) (hw : X.w = w) (hu : X.A.units + 65 < cLine) : CallR X (.builtin "sorted") (rSortN X.K w) := by
  subst hw
  intro pins s σ H vs us Q I r h
  obtain ⟨a, L, ds, rfl, ha, hd, hn2, hal, hk, hlen, q⟩ := h
  obtain ⟨h0, es, ep, t, T0, k0⟩ := (I.hok a _ ha).1
  rw [Vals.ref1 r]
  have rl := refs_vals L
  have ea := So.each_of I hd rl
  have T : Ts X.w s.heap a L es ep t := T0.keep k0 fun p hp => by
    obtain ⟨ks, e1, e2, e3, e4⟩ := keys_of I hd rl hk
    have es1 : ks.map (·.1) = L.map (·.1) := by
      have z := congrArg (List.map fun v => match v with | Value.ref b => b | _ => 0) e1
      rw [List.map_map, List.map_map] at z
      exact z.symm
    have el : ks = L := pairs_same es1 (by rw [e2, hn2])
    rw [← el] at hp
    exact e3 p hp
  refine sorted_setN (P := X.prog) T (I.ok.hd hc) hu (ea.mono fun _ _ z => z.1) (ea.mono fun _ _ z => z.2) hal hk fun s' p out c fs k g o hp hg pf eo => ?_
  obtain ⟨ys, ry, dy⟩ := So.each_back eo
  have hl2 : ys.length ≤ sizeLine := by
    have z := eo.length
    rw [List.length_mergeSort, pf.length_eq] at z
    rw [ry.length, z, sizeLine_eq]
    omega
  have hn : H p = none := I.hok.fresh hp
  have J : Inv X pins σ (upd H p (.lst ys)) { s with heap := s'.heap, gens := s'.gens, drawn := s'.drawn, toks := s'.toks } :=
    I.call (ch := []) (Un.laid k hp hn) (I.hok.laid k hp ⟨hl2, out, c, ry, hg⟩) (by rw [g]; exact I.bare) (fun _ z => nomatch z)
  have e : s' = { s with heap := s'.heap, gens := s'.gens, drawn := s'.drawn, toks := s'.toks } := by
    cases s'
    cases s
    cases o
    rfl
  rw [e]
  exact ⟨.ref p, _, J, rfl, q ys fs p hn pf dy⟩
end
end Sd
/-! len(set of texts); data in a tuple of data; == and != of data within a block. -/
namespace Sl
open PySem PySem.Spec PyProof.Rows L2 Bx TL Dx
section
variable {X : Cx}
def rLenX (P : Program) (w : World) : List V → Hp → VK → Prop := fun vs H Q => ∃ (a : Addr) (l : List Str), vs = [V.ref a] ∧ H a = some (Sx.SetV P w a l) ∧ l.length < 4000 ∧ Q (.int l.length) H
theorem call_lenX : CallR X (.builtin "len") (rLenX X.prog X.w) := by
  intro pins s σ H vs us Q I r h
  obtain ⟨a, l, rfl, ha, hlen, q⟩ := h
  have R : Sx.SetX X.prog X.w s.heap a l := (I.hok a _ ha).1
  obtain ⟨⟨es, ep, t⟩, ho, F, nd, ri, hl⟩ := R
  rw [Vals.ref1 r]
  have hsz : es.size = l.length := F.sz
  exact call_len_set ho ⟨rfl, rfl, rfl⟩ rfl F.fit (by rw [hsz]; omega) ⟨.int l.length, H, I.tok _, ⟨s.toks + 1, by rw [hsz]⟩, q⟩
def rInT (K : PySem.W.Frag) : R2 := fun x y H Q => ∃ d ds, Dp K H x d ∧ Dp K H y (.tuple ds) ∧ SeqAt.shaped d = true ∧ SeqAt.shaped (.tuple ds) = true ∧ Q (.bl (ds.any fun z => PyData.eqv z d)) H
theorem op_inT {K : PySem.W.Frag} (hK : X.K = K) (hu : X.A.units + 65 < cLine) : OpR X (compareOp .In) (rInT K) := by
  subst hK
  intro pins s σ H x y v u Q I rx ry h
  obtain ⟨d, ds, hd, he, sd, se, q⟩ := h
  obtain ⟨as, r1⟩ := Dp.reads I d x v hd rx
  obtain ⟨bs, r2⟩ := Dp.reads I (.tuple ds) y u he ry
  exact SeqAt.in_tuple_reads r2 r1 (SeqAt.canLay_of_shaped se) (SeqAt.canLay_of_shaped sd) (room_in_shaped sd hu) ⟨.bl _, H, I, rfl, q⟩
theorem op_eqDK {K : PySem.W.Frag} (hK : X.K = K) (hu : X.A.units + 64 < cLine) : OpR X (compareOp .Eq) (rEqD K) := by
  subst hK
  exact op_eqD hu
theorem op_neDK {K : PySem.W.Frag} (hK : X.K = K) (hu : X.A.units + 64 < cLine) : OpR X (compareOp .NotEq) (rNeD K) := by
  subst hK
  exact op_neD hu
end
end Sl
/-! data not in a tuple of data. -/
namespace Sl
open PySem PySem.Spec PyProof.Rows L2 Bx TL Dx
section
variable {X : Cx}
def rNotInT (K : PySem.W.Frag) : R2 := fun x y H Q => ∃ d ds, Dp K H x d ∧ Dp K H y (.tuple ds) ∧ SeqAt.shaped d = true ∧ SeqAt.shaped (.tuple ds) = true ∧ Q (.bl (!ds.any fun z => PyData.eqv z d)) H
theorem op_notInT {K : PySem.W.Frag} (hK : X.K = K) (hu : X.A.units + 65 < cLine) : OpR X (compareOp .NotIn) (rNotInT K) := by
  subst hK
  intro pins s σ H x y v u Q I rx ry h
  obtain ⟨d, ds, hd, he, sd, se, q⟩ := h
  obtain ⟨as, one⟩ := Dp.reads I d x v hd rx
  obtain ⟨bs, two⟩ := Dp.reads I (.tuple ds) y u he ry
  exact SeqAt.notIn_tuple_reads two one (SeqAt.canLay_of_shaped se) (SeqAt.canLay_of_shaped sd) (room_in_shaped sd hu) ⟨.bl _, H, I, rfl, q⟩
end
end Sl
/-! sorted(a list of tuples of alike data), the empty tuple among them. -/
namespace Sd
open PySem PySem.Spec PyProof.Rows L2 Bx TL Dx PySem.W PySem.Calls
section
variable {P : Program} {w : World} {A : Around} {E : Value → Shared → Prop} {s : Shared} {vs : List Value} {bs : List PyData} {R : Value → PyData → Prop}
theorem sorted_tups {l : Addr} {Q : Value → Shared → Prop} (hl : s.heap.IsList l vs.toArray) (e : EachIs R vs bs) (er : EachIs (fun v b => ∃ as, PySem.Reads s.heap v b as) vs bs) (hal : AllAlike bs) (ht : ∀ b ∈ bs, ∃ xs, b = .tuple xs) (hL : bs.length ≤ sizeLine)
    (hu : ∀ b, b ∈ bs → A.units + 2 + b.depth < cLine) (h : ∀ out, out.length = bs.length → EachIs R out (bs.mergeSort (dataLe false id)) → Q (.ref (s.heap.objs.size + 1)) { s with heap := sortedAll s.heap vs (List.toArray out) }) :
    wpAny (model P w) A (call (.builtin "sorted") [.ref l]) Q E s := by
  have em : bs.map id = bs := List.map_id bs
  have kept : EachIs (fun v b => ∃ as, PySem.Reads (sortingHeap (copyHeap s.heap vs) (s.heap.objs.size + 1) vs) v (id b) as) vs bs := er.mono fun _ _ ⟨as, r⟩ => ⟨as, PyProof.Rows.Reads.keeps (fun _ _ => sorting_copy_old) r⟩
  have here : SortsAt P w A.in1.in1 { s with heap := sortingHeap (copyHeap s.heap vs) (s.heap.objs.size + 1) vs } (dataKind (sortingHeap (copyHeap s.heap vs) (s.heap.objs.size + 1) vs) (bs.map id)) vs := by
    rw [em]
    exact sorts_tups (s := { s with heap := sortingHeap (copyHeap s.heap vs) (s.heap.objs.size + 1) vs }) kept hal ht fun d hd => hu d hd
  exact sorted_vals hl here (by rw [e.length]; exact hL) (h _ (by rw [sortVals_length false rfl]; exact e.length) (sortVals_data (enc := id) false e kept (by rw [em]; exact hal)))
end
section
variable {X : Cx}
def rSortT (K : PySem.W.Frag) : List V → Hp → VK → Prop := fun xs H Q => ∃ (a : Addr) (vs : List V) (ds : List PyData), xs = [V.ref a] ∧ SqL K H a vs ∧ DpAll K H vs ds ∧ AllAlike ds ∧ (∀ d ∈ ds, ∃ xs, d = .tuple xs) ∧ ds.length ≤ sizeLine ∧ (∀ d ∈ ds, d.depth ≤ 60) ∧
  ∀ (ys : List V) (p : Addr), H p = none → DpAll K H ys (ds.mergeSort So.dle) → Q (.ref p) (upd H p (.lst ys))
theorem cr_sortT (hu : X.A.units + 65 < cLine) : CallR X (.builtin "sorted") (rSortT X.K) := by
  intro pins s σ H xs us Q I r h
  obtain ⟨a, vs, ds, rfl, hs, hd, hal, hso, hz, hdp, q⟩ := h
  cases r with
  | cons ra rb =>
    cases rb
    cases ra
    obtain ⟨its, rv, hl, _⟩ := I.list hs
    have ea := So.each_of I hd rv
    refine sorted_tups (bs := ds) (R := fun u d => ∃ v, Dp X.K H v d ∧ L2.RelV v u) hl.isList (ea.mono fun _ _ z => z.1) (ea.mono fun _ _ z => z.2) hal hso hz (fun d hd => ?_) fun out hlen eo => ?_
    · have := hdp d hd
      omega
    · obtain ⟨ys, ry, dy⟩ := So.each_back eo
      obtain ⟨ep, he'⟩ := PyProof.Rows.sortedAll_at s.heap its out.toArray
      have hyl : ys.length = ds.length := by rw [ry.length, hlen]
      exact ⟨.ref _, upd H (s.heap.objs.size + 1) (.lst ys), I.laid (t' := s.toks) (fun _ _ => PyProof.Rows.sortedAll_old) (Nat.le_succ _) ⟨by rw [hyl]; exact hz, out, ep, ry, by simpa using he'⟩, rfl, q ys _ (I.hok.fresh (Nat.le_succ _)) dy⟩
end
end Sd
/-! sorted(a tuple of tuples of alike data), the empty tuple among them. -/
namespace Sd
open PySem PySem.Spec PyProof.Rows L2 Bx TL Dx PySem.W PySem.Calls
section
variable {P : Program} {w : World} {A : Around} {E : Value → Shared → Prop} {s : Shared} {vs : List Value} {bs : List PyData} {R : Value → PyData → Prop}
theorem sorted_seqT {a : Addr} {Q : Value → Shared → Prop} (ht : s.heap.IsTuple a vs.toArray) (e : EachIs R vs bs) (er : EachIs (fun v b => ∃ as, PySem.Reads s.heap v b as) vs bs) (hal : AllAlike bs) (hp : ∀ b ∈ bs, (∃ xs, b = .tuple xs) ∧ plain b = true) (hL : bs.length ≤ sizeLine)
    (hu : ∀ b, b ∈ bs → A.units + 2 + b.depth < cLine)
    (hQ : ∀ (h' : PySem.Heap) (p : Addr) (out : List Value) (c : Nat), (∀ b o, s.heap.get? b = some o → h'.get? b = some o) → s.heap.get? p = none → h'.get? p = some (seqObj "list" out.toArray c) → EachIs R out (bs.mergeSort (dataLe false id)) → Q (.ref p) { s with heap := h' }) :
    wpAny (model P w) A (call (.builtin "sorted") [.ref a]) Q E s := by
  obtain ⟨o, ho, hc, n, hd⟩ := ht
  have hvl : vs.length = bs.length := e.length
  refine Calls.call_function_entry kind_sorted plain_sorted entry_sorted (args_sorted1 _) ?_
  unfold Builtin.«sorted»
  refine wpAny_bind (m := checkCount "sorted" 1 1 _) (wpAny_pure ?_)
  refine wpAny_bind (wpAny_collect_seq a (.inr rfl) ho hc hd (fun h1 k1 => ?_) (by rw [List.size_toArray]; omega))
  have ez : vs.toArray.toList = vs := by simp
  rw [ez]
  have hline : vs.length ≤ sizeLine := by omega
  refine wpAny_bind (wpAny_newList ?_ hline)
  have hoL : (h1.push (seqObj "list" vs.toArray 0)).get? h1.objs.size = some (seqObj "list" vs.toArray 0) := Heap.get?_push_size _ rfl
  have kp : ∀ b u, s.heap.get? b = some u → (h1.push (seqObj "list" vs.toArray 0)).get? b = some u := fun b u q => Heap.get?_push_of_some _ (k1 b u q)
  refine wpAny_bind (wpAny_holding (list_sort_tups (R := R) (enc := id) (bs := bs) hoL e ?reads (by rw [List.map_id]; exact hal) (fun d hd => (hp d hd).1) hL (fun d hd => ?room) fun out hout eo => ?done))
  case reads =>
    have both : EachIs (fun u d => (∃ as, PySem.Reads s.heap u d as)) vs bs := er
    refine (each_mem both).mono fun u d z => ?_
    obtain ⟨as, r⟩ := z.1
    have z0 := (is_nk d u as (hp d z.2).2 r).2
    exact ⟨as, PyProof.Rows.Reads.keeps kp r, by rw [z0]; exact List.not_mem_nil⟩
  case room =>
    have z := hu d hd
    show A.in1.units + 1 + d.depth < cLine
    simp only [Around.in1_units]
    omega
  case done =>
    obtain ⟨c, hc⟩ := sortedHeap_at (vs := vs) (out := out.toArray) hoL
    have hnone : s.heap.get? h1.objs.size = none := by
      cases q : s.heap.get? h1.objs.size with
      | none => rfl
      | some u => exact absurd (Heap.lt_size (k1 _ _ q)) (Nat.lt_irrefl _)
    refine wpAny_pure ⟨_, rfl, hQ _ h1.objs.size out c (fun b u q0 => ?_) hnone hc eo⟩
    have q := k1 b u q0
    have hlt := Heap.lt_size q
    show (sortedHeap (h1.push (seqObj "list" vs.toArray 0)) h1.objs.size vs _).get? b = some u
    rw [sortedHeap_old (Nat.ne_of_lt hlt) (by rw [size_push']; exact Nat.lt_succ_of_lt hlt)]
    exact Heap.get?_push_of_some _ q
end
section
variable {X : Cx}
def rSortTT (K : PySem.W.Frag) : List V → Hp → VK → Prop := fun xs H Q => ∃ (a : Addr) (vs : List V) (ds : List PyData), xs = [V.ref a] ∧ SqT K H a vs ∧ DpAll K H vs ds ∧ AllAlike ds ∧ (∀ d ∈ ds, (∃ xs, d = .tuple xs) ∧ plain d = true) ∧ ds.length ≤ sizeLine ∧ (∀ d ∈ ds, d.depth ≤ 60) ∧
  ∀ (ys : List V) (p : Addr), H p = none → DpAll K H ys (ds.mergeSort So.dle) → Q (.ref p) (upd H p (.lst ys))
theorem cr_sortTT (hu : X.A.units + 65 < cLine) : CallR X (.builtin "sorted") (rSortTT X.K) := by
  intro pins s σ H xs us Q I r h
  obtain ⟨a, vs, ds, rfl, hs, hd, hal, hso, hz, hdp, q⟩ := h
  rw [Vals.ref1 r]
  obtain ⟨its, rv, pl, _⟩ := I.tuple hs
  have ea := So.each_of I hd rv
  refine sorted_seqT (bs := ds) (R := fun u d => ∃ v, Dp X.K H v d ∧ L2.RelV v u) pl (ea.mono fun _ _ z => z.1) (ea.mono fun _ _ z => z.2) hal hso hz (fun d hd => ?_) fun h' p out c k hp hg eo => ?_
  · have := hdp d hd
    omega
  · obtain ⟨ys, ry, dy⟩ := So.each_back eo
    have hl2 : ys.length ≤ sizeLine := by
      have z := eo.length
      rw [List.length_mergeSort] at z
      rw [ry.length, z]
      exact hz
    have hn : H p = none := I.hok.gone hp
    exact ⟨.ref p, _, I.laidN (t' := s.toks) (o := .lst ys) k hp hn ⟨hl2, out, c, ry, hg⟩, rfl, q ys p hn dy⟩
end
end Sd
/-! Dicts whose keys are nested tuples of ints and texts. -/
namespace Dn
open PySem PySem.Spec PyProof.Rows L2 Bx TL Dx Sd
/-- an entry: the key's tuple, what it is, the value -/
abbrev En := Addr × PyData × V
abbrev KN : List En → List (NK × Addr × Value) → Prop := Paired fun p q => nk p.2.1 = q.1 ∧ p.1 = q.2.1 ∧ RelV p.2.2 q.2.2
def RawN (P : Program) (w : World) (h : PySem.Heap) (a : Addr) (kvs : List En) : Prop := kvs.length ≤ sizeLine ∧ (a == sysModules) = false ∧ ∃ xs, KN kvs xs ∧ ∃ o es ep, h.get? a = some o ∧ o.ExactDict ∧ o.data = .dict es ep ∧ es.toList = xs.map (entryOfKey (nestedKind P w)) ∧ (xs.map (·.1)).Nodup
def DN (P : Program) (w : World) (a : Addr) (kvs : List En) : HO := .ext fun h => RawN P w h a kvs
/-- its keys stand there -/
def KeysAt (K : PySem.W.Frag) (H : Hp) (kvs : List En) : Prop := DpAll K H (kvs.map fun p => V.ref p.1) (kvs.map fun p => p.2.1) ∧ ∀ p ∈ kvs, K8 p.2.1
def valN (kvs : List En) (d : PyData) : Option V := (kvs.find? fun p => decide (nk p.2.1 = nk d)).map (·.2.2)
def putN (kvs : List En) (b : Addr) (d : PyData) (v : V) : List En := if (valN kvs d).isSome then kvs.map (fun p => if nk p.2.1 = nk d then (p.1, p.2.1, v) else p) else kvs ++ [(b, d, v)]
theorem len_putN (kvs : List En) (b : Addr) (d : PyData) (v : V) : (putN kvs b d v).length ≤ kvs.length + 1 := by
  unfold putN
  split
  · rw [List.length_map]
    exact Nat.le_succ _
  · rw [List.length_append]
    exact Nat.le_refl _
section
variable {P : Program} {w : World}
theorem dn_ok {H : Hp} {h : PySem.Heap} {a : Addr} {kvs : List En} (r : RawN P w h a kvs) : ObjOk P w H h a (DN P w a kvs) := by
  obtain ⟨z, y, xs, pr, o, es, ep, ho, rest⟩ := r
  exact ⟨⟨z, y, xs, pr, o, es, ep, ho, rest⟩, ⟨o, ho⟩, fun h1 h2 ⟨z, y, xs, pr, o, es, ep, ho, rest⟩ k => ⟨z, y, xs, pr, o, es, ep, k o ho, rest⟩⟩
theorem raw_of {H : Hp} {h : PySem.Heap} {a : Addr} {kvs : List En} (ok : HOk P w H h) (e : Rd H a (DN P w a kvs)) : RawN P w h a kvs := (show ObjOk P w H h a (DN P w a kvs) from rd_of ok e).1
theorem KN.val {kvs : List En} {xs : List (NK × Addr × Value)} (r : KN kvs xs) (d : PyData) : RelO (valN kvs d) ((atKey xs (nk d)).map (·.2)) := by
  unfold valN atKey
  induction r with
  | nil => exact True.intro
  | @cons p q ps qs h t ih =>
    obtain ⟨h1, _, h3⟩ := h
    rw [List.find?_cons, List.find?_cons]
    by_cases e : nk p.2.1 = nk d
    · rw [decide_eq_true e, decide_eq_true (h1.symm.trans e)]
      exact h3
    · rw [decide_eq_false e, decide_eq_false fun z => e (h1.trans z)]
      exact ih
theorem KN.repl {kvs : List En} {xs : List (NK × Addr × Value)} (r : KN kvs xs) {d : PyData} {v : V} {u : Value} (rv : RelV v u) : KN (kvs.map fun p => if nk p.2.1 = nk d then (p.1, p.2.1, v) else p) (xs.map (putAt (nk d) u)) := by
  induction r with
  | nil => exact .nil
  | @cons p q ps qs h t ih =>
    rw [List.map_cons, List.map_cons]
    refine .cons ?_ ih
    unfold putAt
    obtain ⟨g1, g2, g3⟩ := h
    by_cases e : nk p.2.1 = nk d
    · rw [if_pos e, if_pos (g1.symm.trans e)]
      exact ⟨g1, g2, rv⟩
    · rw [if_neg e, if_neg fun z => e (g1.trans z)]
      exact ⟨g1, g2, g3⟩
theorem KN.put {kvs : List En} {xs : List (NK × Addr × Value)} (r : KN kvs xs) {b : Addr} {d : PyData} {v : V} {u : Value} (rv : RelV v u) : KN (putN kvs b d v) (storedH xs (nk d) b u) := by
  have e : (valN kvs d).isSome = (atKey xs (nk d)).isSome := by rw [(r.val d).isSome_eq, Option.isSome_map]
  unfold putN storedH
  rw [e]
  split
  · exact r.repl rv
  · exact Paired.snoc r ⟨rfl, rfl, rv⟩
end
section
variable {X : Cx} {pins : List (Addr × Obj)} {σ : L2.St} {H : Hp} {s : Shared} {a b : Addr} {kvs : List En} {d : PyData}
theorem refs_of : ∀ kvs : List En, Vals (kvs.map fun p => V.ref p.1) (kvs.map fun p => Value.ref p.1)
  | [] => .nil
  | _ :: r => .cons rfl (refs_of r)
theorem key8 (I : Inv X pins σ H s) (h : Dp X.K H (.ref b) d) (k : K8 d) : Is8 s.heap (nk d) b := by
  obtain ⟨as, r⟩ := Dp.reads I d (.ref b) (.ref b) h rfl
  exact ⟨(is_nk d _ as k.2.1 r).1, k.2.2.1⟩
/-- the dict, its keys known -/
theorem dict_of (I : Inv X pins σ H s) (e : Rd H a (DN X.prog X.w a kvs)) (ka : KeysAt X.K H kvs) :
    (a == sysModules) = false ∧ ∃ xs, KN kvs xs ∧ xs.length ≤ sizeLine ∧ s.heap.DictOfH (nestedKind X.prog X.w) a xs := by
  obtain ⟨z, y, xs, pr, o, es, ep, h1, h2, h3, h4, h5⟩ := raw_of I.hok e
  refine ⟨y, xs, pr, by rw [← Paired.length pr]; exact z, o, es, ep, h1, h2, h3, h4, ?_, h5⟩
  obtain ⟨kd, k8⟩ := ka
  have go : ∀ (kvs : List En) (xs : List (NK × Addr × Value)), KN kvs xs → DpAll X.K H (kvs.map fun p => V.ref p.1) (kvs.map fun p => p.2.1) → (∀ p ∈ kvs, K8 p.2.1) → ∀ x ∈ xs, (nestedKind X.prog X.w).is s.heap x.1 x.2.1 := by
    intro kvs xs r
    induction r with
    | nil => exact fun _ _ x hx => nomatch hx
    | @cons p q ps qs h t ih =>
      intro hd h8 x hx
      rw [List.map_cons, List.map_cons] at hd
      cases hd with
      | cons d1 d2 =>
        rcases List.mem_cons.mp hx with e | hx
        · rw [e, ← h.1, ← h.2.1]
          exact key8 I d1 (h8 p List.mem_cons_self)
        · exact ih d2 (fun p hp => h8 p (List.mem_cons_of_mem _ hp)) x hx
  exact go kvs xs pr kd k8
theorem d_wrote {h' : PySem.Heap} {t' : Nat} {kvs' : List En} {xs' : List (NK × Addr × Value)} (I : Inv X pins σ H s) (e : H a = some (DN X.prog X.w a kvs)) (hd : (a == sysModules) = false) (hl : kvs'.length ≤ sizeLine) (pr : KN kvs' xs')
    (dd : h'.DictOfH (nestedKind X.prog X.w) a xs') (sb : Heap.SameBut a s.heap h') : Inv X pins σ (upd H a (DN X.prog X.w a kvs')) { s with heap := h', toks := t' } := by
  obtain ⟨q, es, ep, hq, g2, g3, g4, _, g5⟩ := dd
  exact d_write I (by rw [e]; exact True.intro) sb ⟨q, hq⟩ (dn_ok ⟨hl, hd, xs', pr, q, es, ep, hq, g2, g3, g4, g5⟩)
end
/-! ### rules -/
def rInN (K : PySem.W.Frag) (P : Program) (w : World) (neg : Bool) : R2 := fun x y H Q => ∃ b d a kvs, x = .ref b ∧ y = .ref a ∧ Dp K H (.ref b) d ∧ K8 d ∧ Rd H a (DN P w a kvs) ∧ KeysAt K H kvs ∧ Q (.bl (if neg then !(valN kvs d).isSome else (valN kvs d).isSome)) H
def sPutN (K : PySem.W.Frag) (P : Program) (w : World) (td ty tv : TE) : TS := fun D σ H => tv σ H fun v H1 => td σ H1 fun x H2 => ty σ H2 fun y H3 => ∃ a b d kvs, x = .ref a ∧ y = .ref b ∧ H3 a = some (DN P w a kvs) ∧ KeysAt K H3 kvs ∧ Dp K H3 (.ref b) d ∧ K8 d ∧ kvs.length < sizeLine ∧
  D.nx σ (upd H3 a (DN P w a (putN kvs b d v)))
def tNewN (P : Program) (w : World) : TE := fun _ H Q => ∀ p, H p = none → Q (.ref p) (upd H p (DN P w p []))
def tStarN (P : Program) (w : World) (te : TE) (t : TA) : TA := fun σ H Q => te σ H fun x H1 => ∃ a kvs, x = V.ref a ∧ Rd H1 a (DN P w a kvs) ∧ t σ H1 fun ys H2 => Q ((kvs.map fun p => V.ref p.1) ++ ys) H2
theorem raw_new {P : Program} {w : World} (h : PySem.Heap) (hb : sysModules < h.objs.size) : RawN P w (h.push { cls := .type "dict", data := .dict #[] }) h.objs.size [] :=
  ⟨Nat.zero_le _, beq_eq_false_iff_ne.mpr (Ne.symm (Nat.ne_of_lt hb)), [], .nil, _, #[], 0, Heap.get?_push_size _ rfl, ⟨rfl, rfl, rfl⟩, rfl, rfl, List.nodup_nil⟩
section
variable {X : Cx} {K : PySem.W.Frag} {P : Program} {w : World}
theorem op_inN (hK : X.K = K) (hP : X.prog = P) (hw : X.w = w) (hu : X.A.units + 65 < cLine) : OpR X (compareOp .In) (rInN K P w false) := by
  subst hK hP hw
  intro pins s σ H x y v u Q I rx ry h
  obtain ⟨b, d, a, kvs, rfl, rfl, hd, h8, ha, ka, q⟩ := h
  cases rx
  cases ry
  obtain ⟨hs, xs, pr, _, dd⟩ := dict_of I ha ka
  refine wpAny_in_heap (show X.A.in1.units + 8 < cLine by simp only [Around.in1_units]; omega) (key8 I hd h8) hs dd ?_
  have e := (pr.val d).isSome_eq
  rw [Option.isSome_map] at e
  exact ⟨.bl _, H, I.tok _, by rw [← e]; rfl, q⟩
theorem op_notInN (hK : X.K = K) (hP : X.prog = P) (hw : X.w = w) (hu : X.A.units + 65 < cLine) : OpR X (compareOp .NotIn) (rInN K P w true) := by
  subst hK hP hw
  intro pins s σ H x y v u Q I rx ry h
  obtain ⟨b, d, a, kvs, rfl, rfl, hd, h8, ha, ka, q⟩ := h
  cases rx
  cases ry
  obtain ⟨hs, xs, pr, _, dd⟩ := dict_of I ha ka
  refine wpAny_notIn_heap (show X.A.in1.units + 8 < cLine by simp only [Around.in1_units]; omega) (key8 I hd h8) hs dd ?_
  have e := (pr.val d).isSome_eq
  rw [Option.isSome_map] at e
  exact ⟨.bl _, H, I.tok _, by rw [← e]; rfl, q⟩
theorem ps_putN {o i value : Expr} {pos pos' : Pos} {td ty tv : TE} (hK : X.K = K) (hP : X.prog = P) (hw : X.w = w) (hu : X.A.units + 65 < cLine) (ho : PE X o td) (hi : PE X i ty) (hv : PE X value tv) (hsw : swapsWith value (some (.Subscript o i pos')) pos.line X.env = pure false) :
    PS X (.Assign [.Subscript o i pos'] value pos) (sPutN K P w td ty tv) := by
  subst hK hP hw
  refine ⟨fun pins s σ H D I h => wpAny_Assign_Subscript (thn (hv.run pins s σ H _ I h) fun r s1 ⟨v, H1, I1, rv, q1⟩ => thn (ho.run pins s1 σ H1 _ I1 q1) fun u s2 ⟨x, H2, I2, rx, q2⟩ => thn (hi.run pins s2 σ H2 _ I2 q2) fun iv s3 ⟨y, H3, I3, ry, q3⟩ => ?_) hsw⟩
  obtain ⟨a, b, d, kvs, rfl, rfl, ha, ka, hd, h8, hl, q⟩ := q3
  cases rx
  cases ry
  obtain ⟨hs, xs, pr, hz, dd⟩ := dict_of I3 (.inl ha) ka
  refine wpAny_setItem_heap (hsz := hz) (show X.A.in1.units + 8 < cLine by simp only [Around.in1_units]; omega) (key8 I3 hd h8) dd fun h' dd' sb => ?_
  have := len_putN kvs b d v
  exact ⟨σ, _, d_wrote I3 ha hs (by omega) (pr.put rv) dd' sb, q⟩
theorem pe_newN {pos : Pos} (hP : X.prog = P) (hw : X.w = w) : PE X (.Dict [] [] pos) (tNewN P w) := by
  subst hP hw
  exact ⟨fun pins s σ H Q I h => wpAny_Dict_empty ⟨.ref s.heap.objs.size, _, I.laid (a := s.heap.objs.size) (t' := s.toks) (fun _ _ q => Heap.get?_push_of_some _ q) (Nat.le_refl _) (dn_ok (raw_new s.heap I.big)), rfl, h _ (I.hok.fresh (Nat.le_refl _))⟩⟩
theorem keys_got {xs : List (NK × Addr × Value)} {kvs : List En} {es : Array DictEntry} {acc : Array Value} {n : Nat} (pr : KN kvs xs) (he : es.toList = xs.map (entryOfKey (nestedKind P w))) (hn : es.size = n) (it : ItemsOf (fun i v => ∃ en : DictEntry, es[i]? = some en ∧ v = en.key) acc n) :
    acc.toList = kvs.map fun p => Value.ref p.1 := by
  have l1 : es.size = xs.length := size_of_entries he
  have l2 : kvs.length = xs.length := Paired.length pr
  refine List.ext_getElem? fun j => ?_
  rw [List.getElem?_map]
  by_cases hj : j < kvs.length
  · obtain ⟨q, hq, _, e2, _⟩ := paired_get pr (List.getElem?_eq_getElem hj)
    have ja : j < acc.toList.length := by rw [Array.length_toList, it.1]; omega
    obtain ⟨en, e3, e4⟩ := it.2 j acc.toList[j] (by rw [← Array.getElem?_toList]; exact List.getElem?_eq_getElem ja)
    have e5 := entry_at he j
    rw [hq, e3] at e5
    cases e5
    rw [List.getElem?_eq_getElem ja, List.getElem?_eq_getElem hj, e4]
    show some (Value.ref q.2.1) = _
    rw [← e2]
    rfl
  · rw [List.getElem?_eq_none (by rw [Array.length_toList, it.1]; omega), List.getElem?_eq_none (by omega)]
    rfl
/-- [*d, ..] -/
theorem pa_starN {e : Expr} {es : List Expr} {p : Pos} {te : TE} {t : TA} (hP : X.prog = P) (hw : X.w = w) (hc : X.calm = true) (he : PE X e te) (hr : PA X es t) (hs : starEach (.Starred e p :: es) X.env = (true, eval e X.env) :: starEach es X.env := by rfl) : PA X (.Starred e p :: es) (tStarN P w te t) := by
  subst hP hw
  refine ⟨fun pos pins s σ H Q I h => PySem.W.items_star (thn (he.run pins s σ H _ I h) fun v s1 ⟨y, H1, I1, ry, a, kvs, ey, ha, q⟩ => ?_) hs⟩
  subst ey
  cases ry
  obtain ⟨z, lo, xs, pr, o, es2, ep, h1, h2, h3, h4, h5⟩ := raw_of I1.hok ha
  have ze : es2.size = xs.length := size_of_entries h4
  have zx : kvs.length = xs.length := Paired.length pr
  have got : wpAny (model X.prog X.w) X.A (collect (.ref a)) (fun us s2 => us = kvs.map (fun p => Value.ref p.1) ∧ Inv X pins σ H1 s2) X.xe s1 := by
    refine PySem.W.kdu_collect (kdl_raw lo h2 h3) (I1.ok.hd hc) h1 (by omega) fun h' tk acc kp it => ?_
    exact ⟨keys_got pr h4 rfl it, I1.kept (t' := tk) kp⟩
  unfold PySem.W.StarOf notIterableAtAll
  refine wpAny_bind (wpAny_specialOf (show s1.TypeIs (.ref a) "dict" from ⟨o, h1, h2.1⟩) PySem.F.slot_dict_iter.lookup (wpAny_pure ⟨rfl, thn got fun us s2 ⟨eu, I2⟩ => ?_⟩))
  subst eu
  exact thn (hr.run pos pins s2 σ H1 _ I2 q) fun ws s3 ⟨vs, H3, I3, r3, q3⟩ => ⟨_ ++ vs, H3, I3, (refs_of kvs).append r3, q3⟩
end
end Dn
/-! Walking a dict with nested keys; a dict comprehension with such keys. -/
namespace Dn
open PySem PySem.Spec PyProof.Rows L2 Bx TL Dx Sd
/-- the keys, in their order, while the dict is locked -/
def Itn (P : Program) (w : World) (d : Addr) (o : Obj) (kvs : List En) : It :=
  ⟨fun i H => H d = some (.frz o (DN P w d kvs)) ∧ i < kvs.length, fun i H x H' => H' = H ∧ ∃ p, kvs[i]? = some p ∧ x = .ref p.1, fun i H => H d = some (.frz o (DN P w d kvs)) ∧ kvs.length ≤ i⟩
def YN (kvs : List En) : Nat → Hp → V → Hp → Prop := fun i H x H' => H' = H ∧ ∃ p, kvs[i]? = some p ∧ x = .ref p.1
theorem walk_N {P : Program} {w : World} {d : Addr} {o : Obj} {kvs : List En} : Walk (Itn P w d o kvs) kvs.length (fun H => H d = some (.frz o (DN P w d kvs))) (YN kvs) :=
  ⟨fun _ _ hi q => ⟨q, hi⟩, fun _ q => ⟨q, Nat.le_refl _⟩, fun _ _ _ _ _ _ y => y⟩
def iKeysN (P : Program) (w : World) (td : TE) : TI := fun σ H R => td σ H fun x H1 => ∃ d o kvs, x = .ref d ∧ H1 d = some (.frz o (DN P w d kvs)) ∧ R (Itn P w d o kvs) H1
section
variable {X : Cx} {pins : List (Addr × Obj)} {σ : L2.St} {H : Hp} {s : Shared} {d : Addr} {o : Obj} {kvs : List En}
theorem frzN (I : Inv X pins σ H s) (h : H d = some (.frz o (DN X.prog X.w d kvs))) : (d == sysModules) = false ∧ s.heap.get? d = some o ∧ o.ExactDict ∧ ∃ (es : Array DictEntry) (ep : Nat), o.data = .dict es ep ∧ es.size = kvs.length ∧
    ∀ (i : Nat) (p : En), kvs[i]? = some p → ∃ en : DictEntry, es[i]? = some en ∧ en.key = .ref p.1 := by
  obtain ⟨e0, x⟩ := (show ObjOk X.prog X.w H s.heap d (.frz o (DN X.prog X.w d kvs)) from I.hok d _ h)
  obtain ⟨z, lo, xs, pr, o', es, ep, h1, h2, h3, h4, _⟩ := x.1
  rw [e0] at h1
  cases h1
  refine ⟨lo, e0, h2, es, ep, h3, by rw [size_of_entries h4, Paired.length pr], fun i p e => ?_⟩
  obtain ⟨q, hq, _, e2, _⟩ := paired_get pr e
  have z := entry_at h4 i
  rw [hq] at z
  exact ⟨_, z, by show Value.ref q.2.1 = _; rw [← e2]⟩
end
theorem turn_N {P : Program} {w : World} {K : PySem.W.Frag} {tg : Expr} {d : Addr} {o : Obj} {es : Array DictEntry} {ep : Nat} {kvs : List En} (it : Addr) (hod : o.data = .dict es ep) : Turn P w K tg (Itn P w d o kvs) [it] it (fun i h => h.IsKeyIter it d i kvs.length ep) where
  mem := List.mem_singleton.mpr rfl
  obj := fun i h st b hb => by
    obtain rfl := List.mem_singleton.mp hb
    obtain ⟨oi, e, _, dd⟩ := st
    exact ⟨oi, e, fun v z => by rw [dd] at z; cases z⟩
  keep := fun i h h' st k => st.at fun oi e => k it (List.mem_singleton.mpr rfl) oi e
  item := by
    rintro X rfl rfl rfl hc i pins s σ H E I hf st ⟨hd, hi⟩
    obtain ⟨f0, f1, f2, f3, f4, f5⟩ := hf it (List.mem_singleton.mpr rfl)
    obtain ⟨_, g0, _, es', ep', g1, g2, ent⟩ := frzN I hd
    obtain ⟨rfl, rfl⟩ := dict_ep hod g1
    obtain ⟨en, e1, e2⟩ := ent i _ (List.getElem?_eq_getElem hi)
    refine next_key_item st g0 g1 g2 e1 fun h' st' sb => ?_
    have I1 : Inv X pins σ H { s with heap := h' } := I.turned (t' := s.toks) (fun b ob ne e => (sb.2 b ne).trans e) f0 f1 f3 f4 f5
    obtain ⟨oi, e, c, dd⟩ := id st'
    exact ⟨en.key, rfl, go_of (s := { s with heap := h' }) e c dd (by decide) ⟨.ref _, H, I1, e2, ⟨rfl, _, List.getElem?_eq_getElem hi, rfl⟩, st', fun b hb => (hf b hb).1⟩⟩
  done := by
    rintro X rfl rfl rfl hc i pins s σ H E I hf st ⟨hd, hi⟩
    obtain ⟨f0, f1, f2, f3, f4, f5⟩ := hf it (List.mem_singleton.mpr rfl)
    obtain ⟨_, g0, _, es', ep', g1, g2, _⟩ := frzN I hd
    obtain ⟨rfl, rfl⟩ := dict_ep hod g1
    exact next_key_end (I.ok.hd hc) st g0 g1 g2 hi fun h' eb => ⟨rfl, I.turned (t' := s.toks) (fun b ob ne e => eb b ob ne e) f0 f1 f3 f4 f5⟩
  self := fun A i s Q E st h => by
    refine wpAny_pyIter_slot st.typeIs F.slot_dict_keyiterator_iter (wpAny_call_entry F.slot_dict_keyiterator_iter st.typeIs F.entry_dict_keyiterator_iter ?_ (F.args_dict_keyiterator_iter_1 _))
    exact wpAny_pure ⟨_, rfl, "dict_keyiterator", _, st.typeIs, F.slot_dict_keyiterator_next.lookup, h⟩
theorem pi_keysN {X : Cx} {P : Program} {w : World} {tg e : Expr} {td : TE} (hP : X.prog = P) (hw : X.w = w) (he : PE X e td) : PI X tg e (iKeysN P w td) := by
  subst hP hw
  refine ⟨fun pins s σ H R I h => thn (he.run pins s σ H _ I h) fun u s1 ⟨x, H1, I1, rx, d, o, kvs, ex, hd, q⟩ => ?_⟩
  subst ex
  cases rx
  obtain ⟨lo, g0, g1, es, ep, g2, g3, _⟩ := frzN I1 hd
  refine iter_keys lo g0 g1 g2 (pi_one (tk := s1.toks) I1 _ (turn_N _ g2) ⟨_, Heap.get?_push_size _ rfl, rfl, ?_⟩ q)
  rw [g3] <;> rfl
/-! ### {k: v for ..} -/
section
variable {X : Cx}
/-- D the new dict -/
def tDcN (K : PySem.W.Frag) (P : Program) (w : World) (wi : TI) (g : TG) (tt : TT) (tk tv : TE) (vs : List Nat) : TE := fun σ H Q => wi σ H fun J H1 => ∀ D, H1 D = none → ∃ W : Nat → Nat → Hp → Prop, (∃ m, W 0 m (upd H1 D (DN P w D []))) ∧ ∀ i m H, W i m H →
  (J.stop i H ∧ Q (.ref D) H) ∨ (J.go i H ∧ ∃ Nx : Hp → Prop, (∀ H', Nx H' → ∃ m', m' < m ∧ W (i + 1) m' H') ∧ ∀ x H', J.yld i H x H' → g x (wipe σ vs) H' fun σ2 H2 => wipe σ2 vs = wipe σ vs ∧ tt σ2 H2 fun b H3 =>
    if b = true then tk σ2 H3 fun y H4 => tv σ2 H4 fun z H5 => ∃ b d kvs, y = .ref b ∧ H5 D = some (DN P w D kvs) ∧ KeysAt K H5 kvs ∧ Dp K H5 (.ref b) d ∧ K8 d ∧ kvs.length < sizeLine ∧ Nx (upd H5 D (DN P w D (putN kvs b d z))) else Nx H3)
theorem set_in {pins : List (Addr × Obj)} {σ : L2.St} {H : Hp} {s : Shared} {E : Value → Shared → Prop} {D b : Addr} {d : PyData} {kvs : List En} {v : V} {r : Value} {Q : Unit → Shared → Prop} (hu : X.A.units + 65 < cLine) (I : Inv X pins σ H s) (hD : H D = some (DN X.prog X.w D kvs)) (ka : KeysAt X.K H kvs)
    (hd : Dp X.K H (.ref b) d) (h8 : K8 d) (hz : kvs.length < sizeLine) (rv : RelV v r) (q : ∀ s', Inv X pins σ (upd H D (DN X.prog X.w D (putN kvs b d v))) s' → Q () s') : wpAny (model X.prog X.w) X.A (dictSet D (.ref b) r) Q E s := by
  obtain ⟨lo, xs, pr, zx, dd⟩ := dict_of I (.inl hD) ka
  refine wpAny_dictSet_heap (hsz := zx) (show X.A.units + 8 < cLine by omega) (key8 I hd h8) dd fun h' dd' sb => q _ ?_
  have := len_putN kvs b d v
  exact d_wrote I hD lo (by omega) (pr.put rv) dd' sb
/-- what the block's loop keeps, between two turns -/
abbrev Keeps (B : Cx) (σ0 : L2.St) (tn : Nat → PySem.Heap → Prop) (fr : List Addr) (W : Nat → Nat → Hp → Prop) (n : Nat) (s' : Shared) : Prop := ∃ i G, Inv B [] σ0 G s' ∧ tn i s'.heap ∧ (∀ b ∈ fr, G b = none) ∧ W i n G
theorem dcn_core {pins : List (Addr × Obj)} {s : Shared} {σ : L2.St} {H : Hp} {Q : VK} {kx vx tg iter : Expr} {ifs : List Expr} {scope : Scope} {own : List (Str × Nat)} {pos pos' : Pos} {wi : TI} {g : TG} {tt : TT} {tk tv : TE} {use : Option (Value → Sem Unit)} {Qf : Value → Shared → Prop}
    (hc : X.calm = true) (hu : X.A.units + 65 < cLine) (nd : X.N.Nodup) (I : Inv X pins σ H s) (hi : PI X tg iter wi) (blk : BlkOk X.N X.env.scope scope own)
    (hg : ∀ (t : Shared) (G : Hp) (C : Addr) (cl : List (Str × Addr)) (fr : List Addr), PG (X.blk t G scope (compEnvC scope cl C X.env) fr) tg g) (ht : ∀ (t : Shared) (G : Hp) (C : Addr) (cl : List (Str × Addr)) (fr : List Addr), PTs (X.blk t G scope (compEnvC scope cl C X.env) fr) ifs tt)
    (hk : ∀ (t : Shared) (G : Hp) (C : Addr) (cl : List (Str × Addr)) (fr : List Addr), PE (X.blk t G scope (compEnvC scope cl C X.env) fr) kx tk) (hv : ∀ (t : Shared) (G : Hp) (C : Addr) (cl : List (Str × Addr)) (fr : List Addr), PE (X.blk t G scope (compEnvC scope cl C X.env) fr) vx tv)
    (plain : ∀ x, foldedSetIterable iter X.env x = pure x) (h : tDcN X.K X.prog X.w wi g tt tk tv (own.map (·.2)) σ H Q)
    (back : ∀ D C t m G, Inv X pins σ G t → Q (.ref D) G → t.heap.Ns C m → FpOk X pins G C → compPost (model X.prog X.w) X.A X.xe use Qf (.ref D) C (.ok .next) t) :
    wpAny (model X.prog X.w) X.A (comprehension (.DictComp kx vx [⟨tg, iter, ifs, 0⟩] scope pos) scope X.env pos' newDict false (eval iter X.env) use) Qf X.xe s := by
  refine wpAny_comprehension_free (use := use) rfl plain (closure_ok fun y hy e => (blk.free y hy e).elim (fun k => I.ok.has _ (.inl k)) fun k => I.ok.has _ (.inr k)) blk.kind (fun y hy e => by rw [blk.uniq y hy, e])
    (thn (hi.run pins s σ H _ I h) fun _ s1 one => thn one fun _ s2 two => ?_)
  obtain ⟨it, fr, tn, J, G, rfl, I2, T, st, fpk, q⟩ := two
  refine wpAny_newObj_type (newEnv_comp ?_)
  obtain ⟨W, ⟨m0, w0⟩, turn⟩ := q s2.heap.objs.size (I2.hok.fresh (Nat.le_refl _))
  have small : ∀ b ∈ fr, b < s2.heap.objs.size := fun b hb => (T.obj _ _ st b hb).elim fun o e => Heap.lt_size e.1
  obtain ⟨D, eD⟩ : ∃ D, D = s2.heap.objs.size := ⟨_, rfl⟩
  rw [← eD] at w0 turn small ⊢
  have I3 : Inv X pins σ (upd G D (DN X.prog X.w D [])) { s2 with heap := s2.heap.push { cls := .type "dict", data := .dict #[] } } := by
    refine I2.laid (t' := s2.toks) (fun b o e => Heap.get?_push_of_some _ e) (Nat.le_of_eq eD.symm) ?_
    rw [eD]
    exact dn_ok (raw_new s2.heap I2.big)
  have kp : ∀ b o, s2.heap.get? b = some o → (s2.heap.push { cls := .type "dict", data := .dict #[] }).get? b = some o := fun b o e => Heap.get?_push_of_some _ e
  have sz3 : (s2.heap.push { cls := .type "dict", data := .dict #[] }).objs.size = D + 1 := by rw [Heap.size_push, eD]
  generalize hs3 : ({ s2 with heap := s2.heap.push { cls := .type "dict", data := .dict #[] } } : Shared) = s3 at I3
  have e3 : s3.heap = s2.heap.push { cls := .type "dict", data := .dict #[] } := by rw [← hs3]
  have away : ∀ b ∈ fr, FpOk X pins (upd G D (DN X.prog X.w D [])) b ∧ b < s3.heap.objs.size := fun b hb => by
    have lt := small b hb
    refine ⟨⟨?_, (fpk b hb).2⟩, by rw [e3, sz3]; exact Nat.lt_succ_of_lt lt⟩
    rw [upd_ne (Nat.ne_of_lt lt)]
    exact (fpk b hb).1
  have st3 : tn 0 s3.heap := T.keep _ _ _ st fun b _ o e => by rw [e3]; exact kp b o e
  have I4 := block_start I3 blk nd away
  generalize hc1 : cellsFrom (s3.heap.objs.size + 1) scope.names (cloFrom X.env.cells scope.names []) = cl at I4
  have pg := hg s3 (upd G D (DN X.prog X.w D [])) s3.heap.objs.size cl fr
  have pt := ht s3 (upd G D (DN X.prog X.w D [])) s3.heap.objs.size cl fr
  have pk := hk s3 (upd G D (DN X.prog X.w D [])) s3.heap.objs.size cl fr
  have pv := hv s3 (upd G D (DN X.prog X.w D [])) s3.heap.objs.size cl fr
  have off : ∀ b ∈ fr, (upd G D (DN X.prog X.w D [])) b = none := fun b hb => (away b hb).1.1
  show codeAny _ _ (.compStart (.DictComp kx vx [⟨tg, iter, ifs, 0⟩] scope pos) 0 (.ref it) (.ref D) (compEnvC scope cl s3.heap.objs.size X.env)) (compPost (model X.prog X.w) X.A X.xe use Qf (.ref D) s3.heap.objs.size) { s3 with heap := pushCells (s3.heap.push { cls := .type "dict", data := .dict #[] }) scope.names }
  generalize he : compEnvC scope cl s3.heap.objs.size X.env = ce at I4 pg pt pk pv ⊢
  have loc : ce.locals = s3.heap.objs.size := by rw [← he]; rfl
  generalize upd G D (DN X.prog X.w D []) = G3 at I3 I4 pg pt pk pv w0 off away
  have st4 : tn 0 (pushCells (s3.heap.push { cls := .type "dict", data := .dict #[] }) scope.names) := T.keep _ _ _ st3 fun b _ o e => pushCells_keeps _ _ _ _ (Heap.get?_push_of_some _ e)
  generalize hs4 : ({ s3 with heap := pushCells (s3.heap.push { cls := .type "dict", data := .dict #[] }) scope.names } : Shared) = s4 at I4 ⊢
  have st5 : tn 0 s4.heap := by rw [← hs4]; exact st4
  have pinok : ∀ {τ : L2.St} {G' : Hp} {t : Shared}, Inv (X.blk s3 G3 scope ce fr) [] τ G' t → (∀ b ∈ fr, G' b = none) → ∀ b ∈ fr, FpOk (X.blk s3 G3 scope ce fr) [] G' b := fun {τ G' t} J' z b hb =>
    ⟨z b hb, (J'.ok.exf b hb).1, J'.ok.exfs b hb, .inl hb, fun x c e => (J'.ok.exf b hb).2 x c e, fun p hp => nomatch (show p ∈ ([] : List (Addr × Obj)) ++ [] from hp)⟩
  have loop : codeAny (model X.prog X.w) X.A (.compLoop (.DictComp kx vx [⟨tg, iter, ifs, 0⟩] scope pos) 0 (.ref it) (.ref D) ce) (compPost (model X.prog X.w) X.A X.xe use Qf (.ref D) s3.heap.objs.size) s4 := by
    refine compLoop_anyD (Keeps (X.blk s3 G3 scope ce fr) (wipe σ (own.map (·.2))) tn fr W) ?_ m0 ⟨0, G3, I4, st5, off, w0⟩
    rintro n s5 ⟨i, G5, I5, t5, n5, w5⟩
    rcases turn i n G5 w5 with ⟨stop, fin⟩ | ⟨go, Nx, less, step⟩
    · refine thnF (T.done (X.blk s3 G3 scope ce fr) rfl rfl rfl hc i [] s5 _ G5 (fun _ _ => False) I5 (pinok I5 n5) t5 stop) fun r s6 ⟨er, I6⟩ => ?_
      subst er
      have free6 : G5 s3.heap.objs.size = none := by
        rw [← loc]
        exact I6.free
      obtain ⟨m, ns, _⟩ := I6.loc
      rw [show (X.blk s3 G3 scope ce fr).env.locals = s3.heap.objs.size from loc] at ns
      exact back D s3.heap.objs.size s6 m G5 (I3.call' (ch := fr) I6.os I6.base I6.hok I6.bare fun b hb => ⟨(away b hb).1.2.2.2.1, (away b hb).1.2.1, (away b hb).1.2.2.2.2.1, (away b hb).1.2.2.2.2.2⟩) fin ns (I3.fpOk (Nat.le_refl _) free6)
    · refine thnF (T.item (X.blk s3 G3 scope ce fr) rfl rfl rfl hc i [] s5 _ G5 (fun _ _ => False) I5 (pinok I5 n5) t5 go) fun r s6 ⟨u, er, h6⟩ => ?_
      subst er
      refine thnF h6 fun _ s7 ⟨x, G7, I7, r7, y7, t7, n7⟩ => ?_
      refine thnF (pg.run _ s7 _ G7 x u _ (I7.pinned (pinok I7 n7) (T.obj _ _ t7)) r7 (step x G7 y7)) fun _ s8 ⟨τ, G8, I8, ew, q8⟩ => ?_
      have again : ∀ {t : Shared} {G' : Hp}, Inv (X.blk s3 G3 scope ce fr) ([] ++ pinsAt fr s7.heap) τ G' t → Nx G' → ∃ m, m < n ∧ Keeps (X.blk s3 G3 scope ce fr) (wipe σ (own.map (·.2))) tn fr W m t := fun {t G'} J' nx => by
        obtain ⟨m', lt, w'⟩ := less G' nx
        have held : ∀ b ∈ fr, ∀ o, s7.heap.get? b = some o → t.heap.get? b = some o ∧ G' b = none := fun b hb o e => by
          have z := J'.pin (b, o) (List.mem_append_right _ (List.mem_append_right _ (mem_pinsAt hb e)))
          exact ⟨z.1, z.2.1⟩
        refine ⟨m', lt, i + 1, G', (J'.unpinned (pins := [])).weak (by rw [← ew, wipe_length]) (fun j v e => ?_), T.keep _ _ _ t7 fun b hb o e => (held b hb o e).1, fun b hb => ?_, w'⟩
        · rw [← ew] at e
          exact (wipe_some e).1
        · obtain ⟨o, e, _⟩ := T.obj _ _ t7 b hb
          exact (held b hb o e).2
      refine thnF (pt.run _ s8 τ G8 _ I8 q8) fun c s9 ⟨G9, I9, q9⟩ => ?_
      cases c with
      | false =>
        simp only [Bool.false_eq_true, if_false] at q9 ⊢
        exact again I9 q9
      | true =>
        simp only [if_true] at q9 ⊢
        refine thnF (pk.run _ s9 τ G9 _ I9 q9) fun z s10 ⟨yk, G10, I10, r10, q10⟩ => ?_
        refine thnF (pv.run _ s10 τ G10 _ I10 q10) fun z2 s11 ⟨yv, G11, I11, r11, b, d, kvs, ek, hD, ka, hd, h8, hz, nx⟩ => ?_
        subst ek
        cases r10
        exact set_in (X := X.blk s3 G3 scope ce fr) hu I11 hD ka hd h8 hz r11 fun s12 I12 => again I12 nx
  exact codeAny_compStart_dict loop (T.self X.A 0 _ _ _ st5 loop)
theorem pe_dcN {K : PySem.W.Frag} {P : Program} {w : World} {kx vx tg iter : Expr} {ifs : List Expr} {scope : Scope} {own : List (Str × Nat)} {pos : Pos} {wi : TI} {g : TG} {tt : TT} {tk tv : TE} (hK : X.K = K) (hP : X.prog = P) (hw : X.w = w) (hc : X.calm = true) (hu : X.A.units + 65 < cLine) (nd : X.N.Nodup) (hi : PI X tg iter wi) (blk : BlkOk X.N X.env.scope scope own)
    (hg : ∀ (t : Shared) (G : Hp) (C : Addr) (cl : List (Str × Addr)) (fr : List Addr), PG (X.blk t G scope (compEnvC scope cl C X.env) fr) tg g) (ht : ∀ (t : Shared) (G : Hp) (C : Addr) (cl : List (Str × Addr)) (fr : List Addr), PTs (X.blk t G scope (compEnvC scope cl C X.env) fr) ifs tt)
    (hk : ∀ (t : Shared) (G : Hp) (C : Addr) (cl : List (Str × Addr)) (fr : List Addr), PE (X.blk t G scope (compEnvC scope cl C X.env) fr) kx tk) (hv : ∀ (t : Shared) (G : Hp) (C : Addr) (cl : List (Str × Addr)) (fr : List Addr), PE (X.blk t G scope (compEnvC scope cl C X.env) fr) vx tv)
    (plain : ∀ x, foldedSetIterable iter X.env x = pure x := by intro _; rfl) : PE X (.DictComp kx vx [⟨tg, iter, ifs, 0⟩] scope pos) (tDcN K P w wi g tt tk tv (own.map (·.2))) := by
  subst hK hP hw
  refine ⟨fun pins s σ H Q I h => ?_⟩
  rw [arm_eval_DictComp]
  refine dcn_core hc hu nd I hi blk hg ht hk hv plain h fun D C t m G J q ns f => ⟨m, ns, fun h'' sb => ?_⟩
  obtain ⟨f0, f1, f2, f3, f4, f5⟩ := f
  exact ⟨.ref D, G, J.turned (t' := t.toks) (fun b o ne e => (sb.2 b ne).trans e) f0 f1 f3 f4 f5, rfl, q⟩
end
end Dn
/-! t[::-1] of a tuple. -/
namespace Rt
open PySem PySem.Spec PyProof.Rows L2 HT
section
variable {prog : Program} {w : World} {A : Around} {E : Value → Shared → Prop} {s : Shared}
theorem sliceApplied_rev {sl : Addr} {vs : Value} {n : Nat} {Q : Int × Int × Nat → Shared → Prop} (hs : s.heap.IsSliceOf sl .none .none vs) (ps : IsPart vs (some (-1))) (h : Q ((n : Int) - 1, -1, n) s) :
    wpAny (model prog w) A (Builtin.Slice.sliceApplied (.ref sl) (pure (n : Int))) Q E s := by
  obtain ⟨os, hos, hcs, hds⟩ := id hs
  unfold Builtin.Slice.sliceApplied Builtin.Slice.sliceFields
  refine wpAny_bind (wpAny_bind (wpAny_field hos hds (x := .none) rfl (wpAny_bind (wpAny_field hos hds (x := .none) rfl (wpAny_bind (wpAny_field hos hds (x := vs) rfl (wpAny_pure ?_)))))))
  refine wpAny_bind (slicePart_ ps ?_)
  show wpAny _ _ (if ((-1 : Int) == 0) = true then _ else _) _ _ s
  rw [if_neg (by decide)]
  refine wpAny_bind (slicePart_none (wpAny_bind (slicePart_none (wpAny_bind (wpAny_pure ?_)))))
  show wpAny _ _ (pure ((n : Int) - 1, (-1 : Int), Builtin.Slice.slicePlaces ((n : Int) - 1) (-1) (-1))) _ _ s
  have e : Builtin.Slice.slicePlaces ((n : Int) - 1) (-1) (-1) = n := by
    unfold Builtin.Slice.slicePlaces
    rw [if_neg (by decide)]
    split
    · have e2 : ((n : Int) - 1 - -1 - 1) / (- -1) = (n : Int) - 1 := by
        rw [show (- -1 : Int) = 1 by decide, Int.ediv_one]
        omega
      rw [e2]
      omega
    · show (0 : Int).toNat = n
      omega
  rw [e]
  exact wpAny_pure h
theorem pick_rev (xs : Array Value) : ((List.range xs.size).filterMap fun (k : Nat) => xs[(((xs.size : Int) - 1) + (k : Int) * -1).toNat]?).toArray = xs.toList.reverse.toArray := by
  have e : (fun (k : Nat) => xs[(((xs.size : Int) - 1) + (k : Int) * -1).toNat]?) = (xs[·]?) ∘ fun k => xs.size - 1 - k := by
    funext k
    have : (((xs.size : Int) - 1) + (k : Int) * -1).toNat = xs.size - 1 - k := by omega
    show xs[(((xs.size : Int) - 1) + (k : Int) * -1).toNat]? = xs[xs.size - 1 - k]?
    rw [this]
  rw [e, ← List.filterMap_map, PySem.W.krv_range, List.filterMap_reverse, PySem.W.krv_all]
theorem getItem_tuple_rev {t sl : Addr} {items : Array Value} {vs : Value} {Q : Value → Shared → Prop} (ht : IsTup s.heap t items) (hs : s.heap.IsSliceOf sl .none .none vs) (ps : IsPart vs (some (-1)))
    (h : Q (.ref s.heap.objs.size) { s with heap := s.heap.push { cls := .type "tuple", data := .seq items.toList.reverse.toArray } })
    (hsz : items.size ≤ sizeLine) : wpAny (model prog w) A (getItem (.ref t) (.ref sl)) Q E s := by
  have htake : sizeOk (.seq items.toList.reverse.toArray) := by
    show items.toList.reverse.toArray.size ≤ sizeLine
    rw [List.size_toArray, List.length_reverse, Array.length_toList]
    exact hsz
  obtain ⟨os, hos, hcs, hds⟩ := id hs
  have hTs : s.TypeIs (.ref sl) "slice" := ⟨os, hos, hcs⟩
  unfold getItem
  try with_reducible refine wpAny_holding ?_
  first | refine wpAny_bind (wpAny_pure ?_) | skip
  refine wpAny_bind (wpAny_sequenceKey ht.typeIs (by decide) ?_)
  refine wpAny_bind (wpAny_callSpecial?_slot (name := Str.ofString "__getitem__") ht.typeIs PyProof.Rows.slot_tuple_getitem
    (wpAny_call_entry PyProof.Rows.slot_tuple_getitem ht.typeIs entry_tuple_getitem ?_ (args_tuple_getitem _ _)))
  show wpAny _ _ (Builtin.Tuple.tupleItemsOf (.ref t) >>= _) _ _ s
  refine wpAny_bind (tupleItemsOf_ ht ?_)
  refine wpAny_bind (wpAny_typeOf hTs ?_)
  rw [if_pos (by decide)]
  refine wpAny_bind (sliceApplied_rev hs ps ?_)
  have hno : ¬ (((((items.size : Int) - 1) == 0 && (-1 : Int) == 1) && items.size == items.size) = true) := by
    rw [show ((-1 : Int) == 1) = false by decide, Bool.and_false, Bool.false_and]
    exact Bool.false_ne_true
  show wpAny _ _ (if ((((items.size : Int) - 1) == 0 && (-1 : Int) == 1) && items.size == items.size) = true then _ else _) _ _ s
  rw [if_neg hno, pick_rev]
  first
    | exact wpAny_bind (m := Builtin.Tuple.tupleExact _) (wpAny_newObj_type (wpAny_pure ⟨_, rfl, wpAny_pure h⟩) htake)
    | exact wpAny_bind (m := Builtin.Tuple.tupleExact _) (wpAny_newObj_type (wpAny_bind (wpAny_pure (wpAny_pure ⟨_, rfl, wpAny_pure h⟩))) htake)
    | exact wpAny_bind (wpAny_bind (m := Builtin.Tuple.tupleExact _) (wpAny_newObj_type (wpAny_pure (wpAny_pure ⟨_, rfl, wpAny_pure h⟩)) htake))
    | exact wpAny_bind (wpAny_bind (m := Builtin.Tuple.tupleExact _) (wpAny_newObj_type (wpAny_pure ⟨_, rfl, wpAny_pure h⟩) htake))
end
section
variable {X : Cx}
def tRevT (K : PySem.W.Frag) (te : TE) : TE := fun σ H Q => te σ H fun x H1 => ∃ a xs, x = .ref a ∧ SqT K H1 a xs ∧ ∀ p, H1 p = none → Q (.ref p) (upd H1 p (.tup xs.reverse))
theorem pe_revT {e : Expr} {te : TE} {k : Nat} {p1 p2 p3 pos : Pos} (he : PE X e te) : PE X (.Subscript e (.Slice none none (some (.UnaryOp .USub (.Constant (.int 1) k p1) p2)) p3) pos) (tRevT X.K te) := by
  refine ⟨fun pins s σ H Q I h => ?_⟩
  refine Subscript_ (thn (he.run pins s σ H _ I h) fun v s1 ⟨x, H1, I1, r1, q1⟩ => ?_)
  obtain ⟨a, xs, ex, hx, q⟩ := q1
  subst ex
  cases r1
  have hst : PO X (some (.UnaryOp .USub (.Constant (.int 1) k p1) p2)) (tPart (tUn (rU fun i => .int (-i)) (tC (.int 1)))) := po_some (pe_un un_neg pe_int)
  refine wpAny_Slice (thn (po_none.run pins s1 σ H1 (fun o H2 => o = none ∧ H2 = H1) I1 ⟨rfl, rfl⟩) fun vl s2 ⟨l, H2, I2, pl, el, e2⟩ => ?_)
  subst el e2
  refine thn (po_none.run pins s2 σ H2 (fun o H3 => o = none ∧ H3 = H2) I2 ⟨rfl, rfl⟩) fun vu s3 ⟨u, H3, I3, pu, eu, e3⟩ => ?_
  subst eu e3
  refine thn (hst.run pins s3 σ H3 (fun o H4 => o = some (-1) ∧ H4 = H3) I3 ⟨1, rfl, -1, rfl, rfl, rfl⟩) fun vs s4 ⟨o, H4, I4, ps, eo, e4⟩ => ?_
  subst eo e4
  cases pl
  cases pu
  have I5 : Inv X pins σ H4 { s4 with heap := s4.heap.push { cls := .type "slice", data := .fields #[.none, .none, vs] } } := I4.kept (t' := s4.toks) fun b ob q => Heap.get?_push_of_some _ q
  obtain ⟨its, r, ht, hz⟩ := I5.tuple hx
  have hlen := r.length
  show wpAny (model X.prog X.w) X.A (subscriptTail e (.Slice none none (some (.UnaryOp .USub (.Constant (.int 1) k p1) p2)) p3) (.ref a) (.ref s4.heap.objs.size)) (EP X pins σ Q) X.xe { s4 with heap := s4.heap.push { cls := .type "slice", data := .fields #[.none, .none, vs] } }
  refine tail_any (ops := [.ref a, .ref s4.heap.objs.size]) ht.typeIs (PyProof.Rows.slot_tuple_getitem.lookup) ?_ (by with_unfolding_all rfl)
  refine getItem_tuple_rev ht (Heap.IsSliceOf.new _ .none .none vs) ps ?_ (by rw [List.size_toArray]; omega)
  refine ⟨.ref _, _, I5.laid (t' := s4.toks) (o := .tup xs.reverse) (fun b ob q => Heap.get?_push_of_some _ q) (Nat.le_refl _) ?_, rfl, q _ (I5.hok.fresh (Nat.le_refl _))⟩
  exact ⟨by rw [List.length_reverse]; exact hz, _, r.reverse, IsTup.new _ _⟩
end
end Rt
/-! t.index(x), t a tuple without a dict of its own; within a block, too. -/
namespace TiX
open PySem PySem.Spec PyProof.Rows L2 Bx TL Dx Zx Ow
def tTix (to : TE) (t : TA) : TE := fun σ H Q => to σ H fun x H1 => ∃ (p : Addr) (ys : List Str), x = .ref p ∧ PlT H1 p (ys.map V.str) ∧ t σ H1 fun vs H2 => ∃ (z : Str) (j : Nat), vs = [.str z] ∧ PlT H2 p (ys.map V.str) ∧ ys[j]? = some z ∧ (∀ m, m < j → ys[m]? ≠ some z) ∧ Q (.int (j : Nat)) H2
variable {X : Cx} {o e : Expr} {es : List Expr} {to : TE} {t : TA} {apos cpos : Pos}
theorem pe_tix (ho : PE X o to) (ha : PA X (e :: es) t)
    (hbase : attributeBase o "index" X.env (eval o X.env) = eval o X.env := by rfl)
    (hfew : ((backTo cpos (starEach (e :: es) X.env)).all (fun x => !x.1) && (backToKw cpos (keywordEach [] X.env)).all (fun x => x.1.isSome)
      && decide ((e :: es).length + ([] : List Keyword).length + (if ([] : List Keyword).isEmpty then 0 else 1) < 30)) = true := by rfl)
    (hline : (apos.endLine == cpos.line) = true := by rfl) (hs : starEach (e :: es) X.env = (false, eval e X.env) :: starEach es X.env := by rfl) (hplain : (backTo cpos (starEach es X.env)).any (·.1) = false := by rfl) :
    PE X (.Call (.Attribute o "index" apos) (e :: es) [] cpos) (tTix to t) := by
  refine ⟨fun pins s σ H Q I h => ?_⟩
  refine wpAny_Call_method_late hbase hfew hline rfl (thn (ho.run pins s σ H _ I h) fun v s1 ⟨x, H1, I1, r1, p, ys, ex, pl, q1⟩ => ?_)
  subst ex
  cases r1
  obtain ⟨ob, hp, hd⟩ := pl
  obtain ⟨hg, hz, its, rv, o2, ho2, hc, n, hdat⟩ : ObjOk X.prog X.w H1 s1.heap p (.frz ob (.tup (ys.map V.str))) := I1.hok p _ hp
  rw [hg] at ho2
  obtain rfl := Option.some.inj ho2
  refine ⟨"tuple", "tuple.index", PySem.F.plainAttrs_tuple, PySem.F.slot_tuple_index, PySem.F.type_tuple_index, ⟨ob, hg, hc⟩, fun a ea => ?_, ?_⟩
  · cases ea
    exact ⟨ob, hg, hd⟩
  have hA := ha.run cpos pins s1 σ H1 _ I1 q1
  rw [hs] at hA ⊢
  refine Calls.callWith_builtin (by show (false || (backTo cpos (starEach es X.env)).any (·.1)) = false; rw [hplain] <;> rfl) (Calls.evalArgs_plain ?_)
  exact thn hA fun us s2 ⟨vs, H2, I2, r2, z, j, ev, pl2, hy, hno, q2⟩ => mt_tup_index pins s2 σ H2 (.ref p) vs _ us Q I2 rfl r2 ⟨p, ys, z, j, rfl, ev, pl2.sq, hy, hno, q2⟩
end TiX
namespace K10
local macro_rules | `(tactic| walk_at "rd") => `(tactic| repeat (first | refine ⟨rfl, ?_⟩ | refine ⟨_, rfl, ?_⟩ | refine ⟨_, _, rfl, rfl, ?_⟩ | refine ⟨⟨_, rfl⟩, ?_⟩))
open PySem PySem.Spec PyProof.Rows L2 Bx TL Dx Zx Ow Sup NdefX Px
def topS (i : Nat) : Stmt := PySem.Challenge.pw_shadowlinks_k10_bits_normal_forms.main.body.getD i (.Pass ⟨0, 0, 0, 0⟩)
abbrev s_merge_names : Stmt := topS 4
abbrev n_merge_names : List Str := ["lists", "names", "name"]
theorem sc_merge_names : FnScope n_merge_names ["lists"] (defScope s_merge_names) := ⟨rfl, rfl, rfl, by decide +kernel, rfl, by decide +kernel, by decide +kernel⟩
abbrev s_replace_names : Stmt := topS 5
abbrev n_replace_names : List Str := ["names", "table", "name"]
theorem sc_replace_names : FnScope n_replace_names ["names", "table"] (defScope s_replace_names) := ⟨rfl, rfl, rfl, by decide +kernel, rfl, by decide +kernel, by decide +kernel⟩
abbrev s_failing : Stmt := topS 7
abbrev n_failing : List Str := ["names", "clauses", "low", "high"]
theorem sc_failing : FnScope n_failing ["names", "clauses"] (defScope s_failing) := ⟨rfl, rfl, rfl, by decide +kernel, rfl, by decide +kernel, by decide +kernel⟩
abbrev s_prime_clauses : Stmt := topS 8
abbrev n_prime_clauses : List Str := ["names", "fails", "half", "low", "high", "both", "if_low", "if_high", "name", "clause"]
theorem sc_prime_clauses : FnScope n_prime_clauses ["names", "fails"] (defScope s_prime_clauses) := ⟨rfl, rfl, rfl, by decide +kernel, rfl, by decide +kernel, by decide +kernel⟩
abbrev s_everything : Stmt := topS 9
abbrev n_everything : List Str := ["names"]
theorem sc_everything : FnScope n_everything ["names"] (defScope s_everything) := ⟨rfl, rfl, rfl, by decide +kernel, rfl, by decide +kernel, by decide +kernel⟩
abbrev s_when_decided : Stmt := topS 10
abbrev n_when_decided : List Str := ["clauses", "name", "value", "left", "clause", "literal"]
theorem sc_when_decided : FnScope n_when_decided ["clauses", "name", "value"] (defScope s_when_decided) := ⟨rfl, rfl, rfl, by decide +kernel, rfl, by decide +kernel, by decide +kernel⟩
abbrev s__half : Stmt := topS 11
abbrev n__half : List Str := ["names"]
theorem sc__half : FnScope n__half ["names"] (defScope s__half) := ⟨rfl, rfl, rfl, by decide +kernel, rfl, by decide +kernel, by decide +kernel⟩
abbrev s_Bits_contradiction : Stmt := inClass (topS 13) 4
abbrev n_Bits_contradiction : List Str := ["self"]
theorem sc_Bits_contradiction : FnScope n_Bits_contradiction ["self"] (defScope s_Bits_contradiction) := ⟨rfl, rfl, rfl, by decide +kernel, rfl, by decide +kernel, by decide +kernel⟩
abbrev s_Bits_rename : Stmt := inClass (topS 13) 5
abbrev n_Bits_rename : List Str := ["self", "theory", "table", "renamed", "names", "clauses", "clause", "name", "sign"]
theorem sc_Bits_rename : FnScope n_Bits_rename ["self", "theory", "table"] (defScope s_Bits_rename) := ⟨rfl, rfl, rfl, by decide +kernel, rfl, by decide +kernel, by decide +kernel⟩
abbrev s_Bits_normal : Stmt := inClass (topS 13) 9
abbrev n_Bits_normal : List Str := ["self", "theory", "names", "clauses"]
theorem sc_Bits_normal : FnScope n_Bits_normal ["self", "theory"] (defScope s_Bits_normal) := ⟨rfl, rfl, rfl, by decide +kernel, rfl, by decide +kernel, by decide +kernel⟩
abbrev s_Bits_pin : Stmt := inClass (topS 13) 13
abbrev n_Bits_pin : List Str := ["self", "names", "assignment", "name"]
theorem sc_Bits_pin : FnScope n_Bits_pin ["self", "names", "assignment"] (defScope s_Bits_pin) := ⟨rfl, rfl, rfl, by decide +kernel, rfl, by decide +kernel, by decide +kernel⟩
abbrev s__law_source : Stmt := topS 15
abbrev n__law_source : List Str := ["_law_script", "_law_k", "_law_number"]
theorem sc__law_source : FnScope n__law_source ["_law_script", "_law_k"] (defScope s__law_source) := ⟨rfl, rfl, rfl, by decide +kernel, rfl, by decide +kernel, by decide +kernel⟩
abbrev s__law_draw : Stmt := topS 16
abbrev n__law_draw : List Str := ["_law_source_here", "_law_limit", "_law_number", "_law_mixed"]
theorem sc__law_draw : FnScope n__law_draw ["_law_source_here", "_law_limit"] (defScope s__law_draw) := ⟨rfl, rfl, rfl, by decide +kernel, rfl, by decide +kernel, by decide +kernel⟩
abbrev s__law_names : Stmt := topS 17
abbrev n__law_names : List Str := ["_law_source_here", "_law_most", "_law_names_here", "_law_k", "_law_text", "_law_j", "_law_choice"]
theorem sc__law_names : FnScope n__law_names ["_law_source_here", "_law_most"] (defScope s__law_names) := ⟨rfl, rfl, rfl, by decide +kernel, rfl, by decide +kernel, by decide +kernel⟩
abbrev s__law_clauses : Stmt := topS 18
abbrev n__law_clauses : List Str := ["_law_source_here", "_law_names_here", "_law_clauses_here", "_law_k", "_law_literals", "_law_name", "_law_sign"]
theorem sc__law_clauses : FnScope n__law_clauses ["_law_source_here", "_law_names_here"] (defScope s__law_clauses) := ⟨rfl, rfl, rfl, by decide +kernel, rfl, by decide +kernel, by decide +kernel⟩
abbrev s__law_same_solutions : Stmt := topS 19
abbrev n__law_same_solutions : List Str := ["_law_source_here", "_law_names_here", "_law_clauses_here", "_law_found", "_law_clause", "_law_others", "_law_name"]
theorem sc__law_same_solutions : FnScope n__law_same_solutions ["_law_source_here", "_law_names_here", "_law_clauses_here"] (defScope s__law_same_solutions) := ⟨rfl, rfl, rfl, by decide +kernel, rfl, by decide +kernel, by decide +kernel⟩
abbrev s__law_rows : Stmt := topS 20
abbrev n__law_rows : List Str := ["_law_names_here", "_law_rows_here", "_law_name", "_law_longer", "_law_row"]
theorem sc__law_rows : FnScope n__law_rows ["_law_names_here"] (defScope s__law_rows) := ⟨rfl, rfl, rfl, by decide +kernel, rfl, by decide +kernel, by decide +kernel⟩
abbrev s__law_all_clauses : Stmt := topS 21
abbrev n__law_all_clauses : List Str := ["_law_names_here", "_law_found", "_law_name", "_law_longer", "_law_clause"]
theorem sc__law_all_clauses : FnScope n__law_all_clauses ["_law_names_here"] (defScope s__law_all_clauses) := ⟨rfl, rfl, rfl, by decide +kernel, rfl, by decide +kernel, by decide +kernel⟩
abbrev s__law_holds : Stmt := topS 22
abbrev n__law_holds : List Str := ["_law_clause", "_law_row", "_law_literal"]
theorem sc__law_holds : FnScope n__law_holds ["_law_clause", "_law_row"] (defScope s__law_holds) := ⟨rfl, rfl, rfl, by decide +kernel, rfl, by decide +kernel, by decide +kernel⟩
abbrev s__law_all_hold : Stmt := topS 23
abbrev n__law_all_hold : List Str := ["_law_clauses_here", "_law_row", "_law_clause"]
theorem sc__law_all_hold : FnScope n__law_all_hold ["_law_clauses_here", "_law_row"] (defScope s__law_all_hold) := ⟨rfl, rfl, rfl, by decide +kernel, rfl, by decide +kernel, by decide +kernel⟩
abbrev s__law_follows : Stmt := topS 24
abbrev n__law_follows : List Str := ["_law_clause", "_law_solutions", "_law_row"]
theorem sc__law_follows : FnScope n__law_follows ["_law_clause", "_law_solutions"] (defScope s__law_follows) := ⟨rfl, rfl, rfl, by decide +kernel, rfl, by decide +kernel, by decide +kernel⟩
abbrev s__law_normal : Stmt := topS 25
abbrev n__law_normal : List Str := ["_law_names_here", "_law_clauses_here", "_law_solutions", "_law_follow", "_law_clause", "_law_least", "_law_shorter", "_law_row", "_law_k", "_law_other"]
theorem sc__law_normal : FnScope n__law_normal ["_law_names_here", "_law_clauses_here"] (defScope s__law_normal) := ⟨rfl, rfl, rfl, by decide +kernel, rfl, by decide +kernel, by decide +kernel⟩
abbrev s__law_is : Stmt := topS 26
abbrev n__law_is : List Str := ["_law_actual", "_law_names_here", "_law_clauses_here", "_law_k", "_law_literal"]
theorem sc__law_is : FnScope n__law_is ["_law_actual", "_law_names_here", "_law_clauses_here"] (defScope s__law_is) := ⟨rfl, rfl, rfl, by decide +kernel, rfl, by decide +kernel, by decide +kernel⟩
abbrev s__law_table : Stmt := topS 27
abbrev n__law_table : List Str := ["_law_source_here", "_law_names_here", "_law_table_here", "_law_name", "_law_new_here", "_law_old"]
theorem sc__law_table : FnScope n__law_table ["_law_source_here", "_law_names_here"] (defScope s__law_table) := ⟨rfl, rfl, rfl, by decide +kernel, rfl, by decide +kernel, by decide +kernel⟩
abbrev s__law_new : Stmt := topS 28
abbrev n__law_new : List Str := ["_law_table_here", "_law_name"]
theorem sc__law_new : FnScope n__law_new ["_law_table_here", "_law_name"] (defScope s__law_new) := ⟨rfl, rfl, rfl, by decide +kernel, rfl, by decide +kernel, by decide +kernel⟩
abbrev s__law_renamed : Stmt := topS 29
abbrev n__law_renamed : List Str := ["_law_table_here", "_law_clauses_here", "_law_found", "_law_clause", "_law_literal"]
theorem sc__law_renamed : FnScope n__law_renamed ["_law_table_here", "_law_clauses_here"] (defScope s__law_renamed) := ⟨rfl, rfl, rfl, by decide +kernel, rfl, by decide +kernel, by decide +kernel⟩
abbrev s_law : Stmt := topS 30
abbrev n_law : List Str := ["_law_script", "_law_source_here", "_law_names_here", "_law_clauses_here", "_law_expected", "_law_actual", "_law_second", "_law_table_here", "_law_passed", "_law_new_names", "_law_renamed_here", "_law_assignment", "_law_name", "_law_pinned", "_law_literal"]
theorem sc_law : FnScope n_law ["_law_script"] (defScope s_law) := ⟨rfl, rfl, rfl, by decide +kernel, rfl, by decide +kernel, by decide +kernel⟩
theorem pi_listK {X : Cx} {K0 : PySem.W.Frag} {tg l : Expr} {tl : TE} (hk : X.K = K0) (hl : PE X l tl) : PI X tg l (iList K0 tl) := by
  subst hk
  exact pi_list hl
theorem sl_tupAK {X : Cx} {K : PySem.W.Frag} (h : X.K = K) : SlR X (rSlA K) := h ▸ sl_tupA
theorem op_catAK {X : Cx} {K : PySem.W.Frag} (h : X.K = K) : OpR X (binaryOp .Add) (rCatA K) := h ▸ op_catA
theorem cr_sortTK {X : Cx} {K : PySem.W.Frag} (h : X.K = K) (hu : X.A.units + 65 < cLine) : CallR X (.builtin "sorted") (Sd.rSortT K) := h ▸ Sd.cr_sortT hu
theorem pa_starK {X : Cx} {K0 : PySem.W.Frag} {e : Expr} {es : List Expr} {p : Pos} {te : TE} {t : TA} (hk : X.K = K0) (he : PE X e te) (hr : PA X es t) (hs : starEach (.Starred e p :: es) X.env = (true, eval e X.env) :: starEach es X.env := by rfl) : PA X (.Starred e p :: es) (StX.tStar K0 te t) := by
  subst hk
  exact StX.pa_star he hr hs
/-! ### literals, clauses as data -/
abbrev Lit := Str × Int
abbrev Cl := List Lit
def litD (l : Lit) : PyData := .tuple [.str l.1, .int l.2]
def clD (c : Cl) : PyData := .tuple (c.map litD)
def OkC (c : Cl) : Prop := ∀ l ∈ c, PyData.strOk l.1 = true
theorem eqv_lit (x y : Lit) : PyData.eqv (litD x) (litD y) = decide (x = y) := by
  obtain ⟨a, i⟩ := x
  obtain ⟨b, j⟩ := y
  show ((a == b) && ((i == j) && true)) = _
  rw [Bool.and_true, Bool.eq_iff_iff, Bool.and_eq_true, beq_iff_eq, beq_iff_eq, decide_eq_true_iff]
  exact ⟨fun h => by rw [h.1, h.2], fun h => by cases h; exact ⟨rfl, rfl⟩⟩
theorem eqv_lits : ∀ c d : Cl, PyData.eqvAll (c.map litD) (d.map litD) = decide (c = d)
  | [], [] => rfl
  | [], _ :: _ => rfl
  | _ :: _, [] => rfl
  | x :: c, y :: d => by
    show (PyData.eqv (litD x) (litD y) && PyData.eqvAll (c.map litD) (d.map litD)) = _
    rw [eqv_lit, eqv_lits c d, Bool.eq_iff_iff, Bool.and_eq_true, decide_eq_true_iff, decide_eq_true_iff, decide_eq_true_iff]
    exact ⟨fun h => by rw [h.1, h.2], fun h => by cases h; exact ⟨rfl, rfl⟩⟩
theorem eqv_cl (c d : Cl) : PyData.eqv (clD c) (clD d) = decide (c = d) := eqv_lits c d
theorem any_lit (c : Cl) (l : Lit) : ((c.map litD).any fun z => PyData.eqv z (litD l)) = decide (l ∈ c) := by
  rw [List.any_map, Bool.eq_iff_iff, List.any_eq_true, decide_eq_true_iff]
  refine ⟨fun ⟨x, h1, h2⟩ => ?_, fun h => ⟨l, h, ?_⟩⟩
  · have z : PyData.eqv (litD x) (litD l) = true := h2
    rw [eqv_lit, decide_eq_true_iff] at z
    rw [← z]
    exact h1
  · show PyData.eqv (litD l) (litD l) = true
    rw [eqv_lit, decide_eq_true_iff]
theorem lay_lit {l : Lit} (h : PyData.strOk l.1 = true) : PyData.canLay0 (litD l) = true := by
  show (PyData.strOk l.1 && (true && true)) = true
  rw [h]
  rfl
theorem lay_lits : ∀ {c : Cl}, OkC c → PyData.canLayAll0 (c.map litD) = true
  | [], _ => rfl
  | l :: c, h => by
    show (PyData.canLay0 (litD l) && PyData.canLayAll0 (c.map litD)) = true
    rw [lay_lit (h l (List.mem_cons_self ..)), lay_lits fun x hx => h x (List.mem_cons_of_mem _ hx)]
    rfl
theorem dep_lit (l : Lit) : (litD l).depth = 1 := rfl
theorem dep_lits : ∀ c : Cl, PyData.depthAll (c.map litD) ≤ 1
  | [] => Nat.zero_le _
  | l :: c => by
    have ih := dep_lits c
    show max (litD l).depth (PyData.depthAll (c.map litD)) ≤ 1
    rw [dep_lit]
    omega
theorem dep_cl (c : Cl) : (clD c).depth ≤ 2 := by
  have z := dep_lits c
  show PyData.depthAll (c.map litD) + 1 ≤ 2
  omega
theorem sh_lit {l : Lit} (h : PyData.strOk l.1 = true) : SeqAt.shaped (litD l) = true := by
  unfold SeqAt.shaped
  rw [lay_lit h, Bool.true_and, decide_eq_true_iff, dep_lit]
  decide
theorem sh_cl {c : Cl} (h : OkC c) : SeqAt.shaped (clD c) = true := by
  unfold SeqAt.shaped
  have z := dep_cl c
  have e : PyData.canLay0 (clD c) = true := lay_lits h
  rw [e, Bool.true_and, decide_eq_true_iff]
  omega
theorem lit_dp {K : PySem.W.Frag} {H : Hp} {v : V} {l : Lit} (h : Dp K H v (litD l)) : ∃ p, v = .ref p ∧ SqT K H p [.str l.1, .int l.2] := by
  obtain ⟨p, xs, rfl, hs, ha⟩ := dp_tup h
  cases ha with
  | cons h1 ha =>
    cases ha with
    | cons h2 ha =>
      cases ha
      cases h1
      cases h2
      exact ⟨p, rfl, hs⟩
theorem dp_lit {K : PySem.W.Frag} {H : Hp} {p : Addr} {l : Lit} (h : SqT K H p [.str l.1, .int l.2]) : Dp K H (.ref p) (litD l) := .tup h (.cons (.str _) (da_one (.int _)))
theorem da_atM {K : PySem.W.Frag} {H : Hp} {α : Type} {f : α → PyData} : ∀ {xs : List V} {cs : List α}, DpAll K H xs (cs.map f) → ∀ {i : Nat} {v : V}, xs[i]? = some v → ∃ c, cs[i]? = some c ∧ Dp K H v (f c)
  | _, [], h, i, v, e => by
    cases h
    cases e
  | _, c :: cs, h, i, v, e => by
    cases h with
    | cons h1 h2 =>
      cases i with
      | zero =>
        cases e
        exact ⟨c, rfl, h1⟩
      | succ i => exact da_atM h2 e
mutual
def tupD : PyData → Bool
  | .str _ => true
  | .int _ => true
  | .tuple ds => tupAll ds
  | _ => false
def tupAll : List PyData → Bool
  | [] => true
  | d :: ds => tupD d && tupAll ds
end
def Tk (K : PySem.W.Frag) (H H' : Hp) : Prop := ∀ a xs, SqT K H a xs → SqT K H' a xs
theorem tk_same {K : PySem.W.Frag} {H H' : Hp} (s : Same H H') : Tk K H H' := fun _ _ h => Bx.Same.tup s h
theorem Tk.trans {K : PySem.W.Frag} {H H1 H2 : Hp} (a : Tk K H H1) (b : Tk K H1 H2) : Tk K H H2 := fun _ _ h => b _ _ (a _ _ h)
theorem tk_lst {K : PySem.W.Frag} {H : Hp} {p : Addr} {ys : List V} {o : HO} (hp : H p = some (.lst ys)) : Tk K H (upd H p o) := fun a xs h => by
  rcases h with (h | ⟨u, h⟩) | h
  · exact .inl (.inl (by rw [upd_ne fun z => by rw [z, hp] at h; cases h]; exact h))
  · exact .inl (.inr ⟨u, by rw [upd_ne fun z => by rw [z, hp] at h; cases h]; exact h⟩)
  · exact .inr h
mutual
theorem dp_tk {K : PySem.W.Frag} {H H' : Hp} (tk : Tk K H H') : ∀ (d : PyData) (v : V), tupD d = true → Dp K H v d → Dp K H' v d
  | .str _, _, _, h => by
    cases h
    exact .str _
  | .int _, _, _, h => by
    cases h
    exact .int _
  | .tuple ds, _, e, h => by
    cases h with
    | tup hs ha => exact .tup (tk _ _ hs) (da_tk tk ds _ e ha)
  | .none, _, e, _ => by cases e
  | .bool _, _, e, _ => by cases e
  | .list _, _, e, _ => by cases e
  | .dict _, _, e, _ => by cases e
theorem da_tk {K : PySem.W.Frag} {H H' : Hp} (tk : Tk K H H') : ∀ (ds : List PyData) (vs : List V), tupAll ds = true → DpAll K H vs ds → DpAll K H' vs ds
  | [], _, _, h => by
    cases h
    exact .nil
  | d :: ds, _, e, h => by
    have e2 : (tupD d && tupAll ds) = true := e
    rw [Bool.and_eq_true] at e2
    cases h with
    | cons h1 h2 => exact .cons (dp_tk tk d _ e2.1 h1) (da_tk tk ds _ e2.2 h2)
end
theorem tup_lits : ∀ c : Cl, tupAll (c.map litD) = true
  | [] => rfl
  | l :: c => by
    show (tupD (litD l) && tupAll (c.map litD)) = true
    rw [tup_lits c]
    rfl
theorem tup_cls : ∀ cs : List Cl, tupAll (cs.map clD) = true
  | [] => rfl
  | c :: cs => by
    show (tupAll (c.map litD) && tupAll (cs.map clD)) = true
    rw [tup_cls cs, tup_lits c]
    rfl
/-! ### the order of literals -/
theorem lt_of {a b : List Nat} (h : a ≤ b) (hn : a ≠ b) : a < b := by
  by_cases c : a < b
  · exact c
  · exact absurd (List.le_antisymm h (List.not_lt.mp c)) hn
theorem dle_lit {x y : Lit} (h : So.dle (litD x) (litD y) = true) : x.1 = y.1 ∨ x.1.cps.toList < y.1.cps.toList := by
  have e : So.dle (litD x) (litD y) = !PySem.W.dataLt (litD y) (litD x) := rfl
  rw [e] at h
  unfold litD at h
  rw [PySem.W.dataLt_pair rfl rfl] at h
  by_cases c : y.1 = x.1
  · exact .inl c.symm
  · have z : PyData.eqv (.str y.1) (.str x.1) = false := by
      show (y.1 == x.1) = false
      exact beq_false_of_ne c
    rw [z, if_neg Bool.false_ne_true, PySem.W.dataLt_str, PySem.W.not_lt_str, decide_eq_true_iff] at h
    refine .inr ?_
    exact lt_of h fun e => c (by
      cases hy : y.1
      cases hx : x.1
      rw [hy, hx] at e
      simp only at e
      congr 1
      exact (Array.toList_inj.mp e).symm)
abbrev Up (c : Cl) : Prop := c.Pairwise fun x y => x.1.cps.toList < y.1.cps.toList
theorem up_of {ls : Cl} (h : (ls.map litD).Pairwise fun a b => So.dle a b = true) (nd : (ls.map (·.1)).Nodup) : Up ls := by
  have h1 : ls.Pairwise fun x y => So.dle (litD x) (litD y) = true := List.pairwise_map.mp h
  have h2 : ls.Pairwise fun x y => x.1 ≠ y.1 := List.pairwise_map.mp nd
  refine (h1.and h2).imp fun z => ?_
  exact (dle_lit z.1).resolve_left z.2
theorem nodup_cover : ∀ (ys ms : List Str), ys.Nodup → (∀ x, x ∈ ys → x ∈ ms) → (∀ x, x ∈ ms → x ∈ ys) → ms.length ≤ ys.length → ms.Nodup := by
  intro ys ms nd sub sup hl
  have key : ∀ (l m : List Str), l.Nodup → (∀ x, x ∈ l → x ∈ m) → l.length ≤ m.length := by
    intro l
    induction l with
    | nil => exact fun m _ _ => Nat.zero_le _
    | cons x l ih =>
      intro m nd sub
      obtain ⟨n1, n2⟩ := List.nodup_cons.mp nd
      have hx := sub x (List.mem_cons_self ..)
      have z := ih (m.erase x) n2 fun y hy => (List.mem_erase_of_ne fun e => n1 (by rw [← e]; exact hy)).mpr (sub y (List.mem_cons_of_mem _ hy))
      rw [List.length_erase_of_mem hx] at z
      have hp : 0 < m.length := List.length_pos_of_mem hx
      rw [List.length_cons]
      omega
  have e : ms.length = ys.length := Nat.le_antisymm hl (key ys ms nd sub)
  exact (Sx.perm_of_sub ys ms nd sub e).nodup_iff.mp nd
theorem nodup_le : ∀ (ms ys : List Str), ms.Nodup → (∀ x, x ∈ ms → x ∈ ys) → ms.length ≤ ys.length := by
  intro l
  induction l with
  | nil => exact fun m _ _ => Nat.zero_le _
  | cons x l ih =>
    intro m nd sub
    obtain ⟨n1, n2⟩ := List.nodup_cons.mp nd
    have hx := sub x (List.mem_cons_self ..)
    have z := ih (m.erase x) n2 fun y hy => (List.mem_erase_of_ne fun e => n1 (by rw [← e]; exact hy)).mpr (sub y (List.mem_cons_of_mem _ hy))
    rw [List.length_erase_of_mem hx] at z
    have hp : 0 < m.length := List.length_pos_of_mem hx
    rw [List.length_cons]
    omega
theorem cut_suf (xs : List V) (k : Nat) : cutV xs (some (k : Int)) none = xs.drop k := by
  unfold cutV
  rw [HT.sIx_nat, HT.sIx_none]
  by_cases h : k ≤ xs.length
  · rw [Nat.min_eq_left h]
    exact List.take_of_length_le (by rw [List.length_drop]; exact Nat.le_refl _)
  · rw [Nat.min_eq_right (by omega), List.drop_of_length_le (show xs.length ≤ k by omega), List.drop_length]
    exact List.take_nil
theorem cut_pre (xs : List V) (k : Nat) : cutV xs none (some (k : Int)) = xs.take k := by
  unfold cutV
  rw [HT.sIx_nat]
  show (xs.drop 0).take (min k xs.length - 0) = xs.take k
  rw [List.drop_zero, Nat.sub_zero, ← List.take_eq_take_min]
section
variable {P : Program} {w : World} {K : PySem.W.Frag} {mg : Str → Option Value} {base : Heap}
theorem slice_any {H : Hp} {a : Addr} {xs : List V} {lo hi : Option Int} (ha : SqT K H a xs) {Z : VK} (q : ∀ c' H', Same H H' → SqT K H' c' (cutV xs lo hi) → Z (.ref c') H') : rSlA K (.ref a) lo hi H Z := by
  refine ⟨a, xs, rfl, ha, fun h => ?_, fun _ p np => q p _ (same_new np) (sqt upd_same)⟩
  have e : cutV xs lo hi = xs := by
    unfold cutV
    rw [h.1, h.2, List.drop_zero, Nat.sub_zero, List.take_length]
  exact q a H (Same.refl H) (e.symm ▸ ha)
end
end K10
namespace K10
local macro_rules | `(tactic| walk_at "rd") => `(tactic| repeat (first | refine ⟨rfl, ?_⟩ | refine ⟨_, rfl, ?_⟩ | refine ⟨_, _, rfl, rfl, ?_⟩ | refine ⟨⟨_, rfl⟩, ?_⟩))
open PySem PySem.Spec PyProof.Rows L2 Bx TL Dx Zx Ow Sup NdefX Px
theorem app_len (x y : Str) : (x ++ y).length = x.length + y.length := by
  rw [len_tl, tl_append, List.length_append, ← len_tl, ← len_tl]
theorem set_gi {te : TE} {i : Nat} {D : Ends} {rest : TS} {σ : List (Option V)} {H : Hp} (R : V → Hp → Prop) (h : ∀ Z : VK, (∀ v H', R v H' → Z v H') → te σ H Z) (k : ∀ v H', R v H' → rest D (σ.set i (some v)) H') : tSeq (tAsg te (gName i)) rest D σ H :=
  h (fun v H' => rest D (σ.set i (some v)) H') k
theorem st_gi {t : TS} {i : Nat} {D : Ends} {rest : TS} {σ : List (Option V)} {H : Hp} (R : V → Hp → Prop) (h : ∀ D' : Ends, (∀ v H', R v H' → D'.nx (σ.set i (some v)) H') → t D' σ H) (k : ∀ v H', R v H' → rest D (σ.set i (some v)) H') : tSeq t rest D σ H :=
  h { D with nx := rest D } k
section
variable {P : Program} {w : World} {K : PySem.W.Frag} {mg : Str → Option Value} {base : Heap}
/-! ### the law's own: draws -/
theorem int_at {ns : List Int} {k : Nat} (h : k < ns.length) : atI (ns.map V.int) (k : Int) = some (V.int ns[k]) := atI_nat (by rw [List.getElem?_map, List.getElem?_eq_getElem h]; rfl)
def spSource (K : PySem.W.Frag) : Sp := fun vs H Q _ => ∃ (a : Addr) (ns : List Int) (k : Nat), vs = [.ref a, .int (k : Int)] ∧ SqL K H a (ns.map V.int) ∧ k ≤ 100 ∧ ∀ p n c, H p = none → Q (.ref p) (upd H p (.lst [.int n, .int c]))
theorem ok_source {f : Addr} {fd : FuncData} (F : Fun K "_law_source" "_law_source" s__law_source f fd) (m_len : mg "len" = none) (m_int : mg "int" = none) : FnOk P w K mg base CX0 1 f fd ["_law_script", "_law_k"] (spSource K) := by
  refine F.ok sc__law_source (fun vs H Q E h => ?_) (fun cdv A outer s H vs Q E hr h => ?_)
  · obtain ⟨a, ns, k, rfl, _⟩ := h
    rfl
  · obtain ⟨a, ns, k, rfl, hS, hk, q⟩ := h
    refine ⟨_, (pss_cons (ps_set (i := 2) sc__law_source.nd rfl (Or.inl rfl) pe_int)
    (pss_cons (ps_if (pt_cmpR op_lt (pv 1) (pe_callB call_len_seq (by rfl) m_len PySem.boot_len (pa_cons (pv 0) pa_nil)) (nomark _))
      (pss_one (ps_set (i := 2) sc__law_source.nd rfl (Or.inl rfl) (pe_callTy (T := "int") call_int1 (by rfl) m_int (by decide +kernel) (pa_cons (pe_ix ix_list (pv 0) (pv 1) (fun _ _ => rfl)) pa_nil))))
      pss_nil)
    (pss_one (ps_ret (pe_lst (pa_cons (pv 2) (pa_cons (pe_op op_add (pe_op op_mul pe_int (pv 1)) (pe_callB call_len_seq (by rfl) m_len PySem.boot_len (pa_cons (pv 0) pa_nil))) pa_nil))))))), ?_⟩
    walk_at "rd"
    refine ⟨_, _, rfl, .inl hS, ?_⟩
    walk_at "rd"
    refine ite2 (fun h0 => ?_) (fun h0 => ?_)
    · have h1 : (k : Int) < ((ns.map V.int).length : Nat) := of_decide_eq_true h0
      rw [List.length_map] at h1
      walk_at "rd"
      refine ⟨_, _, _, _, rfl, rfl, hS, int_at (k := k) (by omega), ?_⟩
      refine .inl ⟨_, rfl, ?_⟩
      walk_at "rd"
      refine ⟨.inr ⟨by omega, by omega⟩, ?_⟩
      walk_at "rd"
      refine ⟨_, _, rfl, .inl hS, ?_⟩
      walk_at "rd"
      exact ⟨sz (by show 2 ≤ 100000; decide), fun p np => q p _ _ np⟩
    · walk_at "rd"
      refine ⟨.inr ⟨by omega, by omega⟩, ?_⟩
      walk_at "rd"
      refine ⟨_, _, rfl, .inl hS, ?_⟩
      walk_at "rd"
      exact ⟨sz (by show 2 ≤ 100000; decide), fun p np => q p _ _ np⟩
theorem modb (x : Int) {k : Int} (h : 0 < k) (h2 : k ≤ 2 ^ 64) : -(2 ^ 64) < x % k ∧ x % k < 2 ^ 64 := by
  have a := Int.emod_nonneg x (show k ≠ 0 by omega)
  have b := Int.emod_lt_of_pos x h
  omega
@[irreducible] def spDraw : Sp := fun vs H Q _ => ∃ (a : Addr) (n c lim : Int), vs = [.ref a, .int lim] ∧ H a = some (.lst [.int n, .int c]) ∧ 0 < lim ∧ lim < 1073741824 ∧ ∀ r n' c', 0 ≤ r → r < lim → Q (.int r) (upd H a (.lst [.int n', .int c']))
theorem ok_draw {f : Addr} {fd : FuncData} (F : Fun K "_law_draw" "_law_draw" s__law_draw f fd) (m_int : mg "int" = none) : FnOk P w K mg base CX0 1 f fd ["_law_source_here", "_law_limit"] spDraw := by
  refine F.ok sc__law_draw (fun vs H Q E h => ?_) (fun cdv A outer s H vs Q E hr h => ?_)
  · unfold spDraw at h
    obtain ⟨a, n, c, lim, rfl, _⟩ := h
    rfl
  · unfold spDraw at h
    obtain ⟨a, n, c, lim, rfl, hA, h0, h1, q⟩ := h
    have hfm : ∀ x : Int, 0 ≤ x.fmod lim ∧ x.fmod lim < lim := fun x => by
      rw [Int.fmod_eq_emod_of_nonneg _ (by omega)]
      exact ⟨Int.emod_nonneg _ (by omega), Int.emod_lt_of_pos _ h0⟩
    refine ⟨_, (pss_cons (ps_set (i := 2) sc__law_draw.nd rfl (Or.inl rfl) (pe_ix ix_list (pv 0) pe_int (fun _ _ => rfl)))
    (pss_cons (ps_if (pt_cmpR op_ge (pv 2) (pe_op op_pow pe_int pe_int) (nomark _))
      (pss_cons (ps_asg (pe_op op_fdivN (pv 2) (pv 1)) (pg_sub (pv 0) pe_int set_list))
    (pss_one (ps_ret (pe_op op_modN (pe_callTy (T := "int") call_int1 (by rfl) m_int (by decide +kernel) (pa_cons (pv 2) pa_nil)) (pv 1)))))
      pss_nil)
    (pss_cons (ps_asg (pe_op op_add (pe_ix ix_list (pv 0) pe_int (fun _ _ => rfl)) pe_int) (pg_sub (pv 0) pe_int set_list))
    (pss_cons (ps_set (i := 3) sc__law_draw.nd rfl (Or.inl rfl) (pe_op op_mod (pe_callTy (T := "int") call_int1 (by rfl) m_int (by decide +kernel) (pa_cons (pe_op op_add (pe_op op_add (pe_op op_mul (pv 2) pe_int) (pe_op op_mul (pe_ix ix_list (pv 0) pe_int (fun _ _ => rfl)) pe_int)) pe_int) pa_nil)) pe_int))
    (pss_cons (ps_set (i := 3) sc__law_draw.nd rfl (Or.inl rfl) (pe_op op_mod (pe_callTy (T := "int") call_int1 (by rfl) m_int (by decide +kernel) (pa_cons (pe_op op_add (pe_op op_add (pe_op op_mul (pv 3) (pv 3)) (pv 2)) (pe_op op_mul (pe_ix ix_list (pv 0) pe_int (fun _ _ => rfl)) pe_int)) pa_nil)) pe_int))
    (pss_cons (ps_set (i := 3) sc__law_draw.nd rfl (Or.inl rfl) (pe_op op_mod (pe_callTy (T := "int") call_int1 (by rfl) m_int (by decide +kernel) (pa_cons (pe_op op_add (pe_op op_add (pe_op op_mul (pv 3) (pv 3)) (pe_op op_fdiv (pv 3) pe_int)) pe_int) pa_nil)) pe_int))
    (pss_one (ps_ret (pe_op op_modN (pe_op op_fdiv (pe_callTy (T := "int") call_int1 (by rfl) m_int (by decide +kernel) (pa_cons (pv 3) pa_nil)) pe_int) (pv 1)))))))))), ?_⟩
    walk_at "rd"
    refine ⟨_, _, _, _, rfl, rfl, sq hA, atI_nat (j := 0) rfl, ?_⟩
    walk_at "rd"
    refine ⟨⟨by decide, by decide, by decide⟩, ?_⟩
    walk_at "rd"
    refine ite2 (fun hb => ?_) (fun hb => ?_)
    · walk_at "rd"
      refine ⟨⟨by omega, by omega⟩, ?_⟩
      walk_at "rd"
      refine ⟨_, _, _, 0, rfl, rfl, hA, rfl, ?_⟩
      walk_at "rd"
      refine .inl ⟨_, rfl, ?_⟩
      walk_at "rd"
      refine ⟨by omega, ?_⟩
      exact q _ _ _ (hfm _).1 (hfm _).2
    · walk_at "rd"
      refine ⟨_, _, _, _, rfl, rfl, sq hA, atI_nat (j := 1) rfl, ?_⟩
      walk_at "rd"
      refine ⟨_, _, _, 1, rfl, rfl, hA, rfl, ?_⟩
      -- the first mixing
      walk_at "rd"
      refine ⟨.inr ⟨by decide, by decide⟩, ?_⟩
      walk_at "rd"
      refine ⟨_, _, _, _, rfl, rfl, sq upd_same, atI_nat (j := 1) rfl, ?_⟩
      walk_at "rd"
      refine ⟨.inr ⟨by decide, by decide⟩, ?_⟩
      walk_at "rd"
      refine .inl ⟨_, rfl, ?_⟩
      walk_at "rd"
      refine ⟨by show (0 : Int) < 2147483647; decide, ?_⟩
      -- the second
      walk_at "rd"
      refine ⟨.inl (modb _ (by decide) (by decide)), ?_⟩
      walk_at "rd"
      refine ⟨_, _, _, _, rfl, rfl, sq upd_same, atI_nat (j := 1) rfl, ?_⟩
      walk_at "rd"
      refine ⟨.inr ⟨by decide, by decide⟩, ?_⟩
      walk_at "rd"
      refine .inl ⟨_, rfl, ?_⟩
      walk_at "rd"
      refine ⟨by show (0 : Int) < 2147483629; decide, ?_⟩
      -- the third
      walk_at "rd"
      refine ⟨.inl (modb _ (by decide) (by decide)), ?_⟩
      walk_at "rd"
      refine ⟨⟨by decide, by decide⟩, ?_⟩
      walk_at "rd"
      refine .inl ⟨_, rfl, ?_⟩
      walk_at "rd"
      refine ⟨by show (0 : Int) < 2147483587; decide, ?_⟩
      -- the answer
      walk_at "rd"
      refine .inl ⟨_, rfl, ?_⟩
      walk_at "rd"
      refine ⟨⟨by decide, by decide⟩, ?_⟩
      walk_at "rd"
      refine ⟨by omega, ?_⟩
      exact q _ _ _ (hfm _).1 (hfm _).2
/-- some other source, or none -/
theorem draw_of {H : Hp} {a : Addr} {lim : Int} {Q : VK} {E : XK} (hA : Src H a) (h0 : 0 < lim ∧ lim < 1073741824) (q : ∀ r H', 0 ≤ r → r < lim → SameBut a H H' → Src H' a → Q (.int r) H') : spDraw [.ref a, .int lim] H Q E := by
  obtain ⟨n, c, hA⟩ := hA
  unfold spDraw
  exact ⟨a, n, c, lim, rfl, hA, h0.1, h0.2, fun r n' c' h1 h2 => q r _ h1 h2 SameBut.upd ⟨n', c', upd_same⟩⟩
abbrev CDraw (P : Program) (w : World) (K : PySem.W.Frag) (mg : Str → Option Value) (base : Heap) : Prop := Cal P w K mg base "_law_draw" 1 ["_law_source_here", "_law_limit"] spDraw
/-! ### names -/
/-- a text of a drawn name -/
def Tx (n : Nat) (z : Str) : Prop := 1 ≤ z.length ∧ z.length ≤ n ∧ ∀ c ∈ tl z, c < 0x110000
theorem Tx.le {n m : Nat} {z : Str} (h : Tx n z) (l : n ≤ m) : Tx m z := ⟨h.1, Nat.le_trans h.2.1 l, h.2.2⟩
theorem Tx.ok {n : Nat} {z : Str} (h : Tx n z) : PyData.strOk z = true := by
  unfold PyData.strOk
  rw [Array.all_eq_true']
  intro c hc
  exact decide_eq_true (h.2.2 c (by simpa using hc))
theorem Tx.app {n m : Nat} {x y : Str} (a : Tx n x) (b : y.length ≤ m ∧ ∀ c ∈ tl y, c < 0x110000) : Tx (n + m) (x ++ y) := by
  have e := app_len x y
  refine ⟨by have := a.1; omega, by have := a.2.1; have := b.1; omega, fun c hc => ?_⟩
  rw [tl_append] at hc
  rcases List.mem_append.mp hc with h | h
  · exact a.2.2 c h
  · exact b.2 c h
theorem tx_sign {L : Str} {c : Nat} (h : (tl L).all (fun d => decide (d < 0x110000)) = true) (hc : c ∈ tl L) : Tx 1 (⟨#[c]⟩ : Str) := by
  refine ⟨Nat.le_refl _, Nat.le_refl _, fun d hd => ?_⟩
  have e : d = c := by simpa using hd
  rw [e]
  exact of_decide_eq_true (List.all_eq_true.mp h c hc)
theorem tx_cut {n : Nat} {z : Str} (h : Tx n z) : (cutS z none (some 1)).length ≤ 1 ∧ ∀ c ∈ tl (cutS z none (some 1)), c < 0x110000 := by
  have e : tl (cutS z none (some 1)) = (tl z).take 1 := by
    show ((tl z).drop (HT.sIx z.length 0 none)).take (HT.sIx z.length z.length (some ((1 : Nat) : Int)) - HT.sIx z.length 0 none) = _
    rw [HT.sIx_none, HT.sIx_nat, List.drop_zero, Nat.sub_zero, Nat.min_eq_left h.1]
  refine ⟨?_, fun c hc => ?_⟩
  · rw [len_tl, e]
    exact List.length_take_le ..
  · rw [e] at hc
    exact h.2.2 c (List.mem_of_mem_take hc)
@[irreducible] def spNames (K : PySem.W.Frag) : Sp := fun vs H Q _ => ∃ (s : Addr) (k : Nat), vs = [.ref s, .int (k : Int)] ∧ Src H s ∧ k ≤ 5 ∧ ∀ (p : Addr) (ns : List Str) (H' : Hp), SameBut s H H' → Src H' s → SqT K H' p (ns.map V.str) → Asc ns → (∀ z ∈ ns, Tx 17 z) → ns.length ≤ 5 → Q (.ref p) H'
set_option maxHeartbeats 2000000 in
theorem ok_names {f : Addr} {fd : FuncData} (F : Fun K "_law_names" "_law_names" s__law_names f fd) (m_range : mg "range" = none) (m_len : mg "len" = none) (m_tuple : mg "tuple" = none) (m_sorted : mg "sorted" = none) (C__law_draw : CDraw P w K mg base) : FnOk P w K mg base CX0 2 f fd ["_law_source_here", "_law_most"] (spNames K) := by
  refine F.ok sc__law_names (fun vs H Q E h => ?_) (fun cdv A outer s H vs Q E hr h => ?_)
  · unfold spNames at h
    obtain ⟨s, k, rfl, _⟩ := h
    rfl
  · unfold spNames at h
    obtain ⟨src, k, rfl, hA, hk, q⟩ := h
    refine ⟨_, (pss_cons (ps_set (i := 2) sc__law_names.nd rfl (Or.inl rfl) (pe_lst pa_nil))
    (pss_cons (ps_for PassesOwn.never rfl (pi_range1 (by rfl) m_range (pa_cons (pv 1) pa_nil)) (pg_name (i := 3) sc__law_names.nd rfl (Or.inl rfl))
      (pss_cons (ps_set (i := 4) sc__law_names.nd rfl (Or.inl rfl) (pe_ix ix_str pe_str (pe_cal C__law_draw (hr.mono (by decide)) (pa_cons (pv 0) (pa_cons pe_int pa_nil))) (fun _ _ => rfl)))
    (pss_cons (ps_for PassesOwn.never rfl (pi_range1 (by rfl) m_range (pa_cons (pe_ix ix_list (pe_lst (pa_cons pe_int (pa_cons pe_int (pa_cons pe_int (pa_cons pe_int pa_nil))))) (pe_cal C__law_draw (hr.mono (by decide)) (pa_cons (pv 0) (pa_cons pe_int pa_nil))) (fun _ _ => rfl)) pa_nil)) (pg_name (i := 5) sc__law_names.nd rfl (Or.inl rfl))
      (pss_one (ps_set (i := 4) sc__law_names.nd rfl (Or.inl rfl) (pe_op op_add_str (pv 4) (pe_ix ix_str pe_str (pe_cal C__law_draw (hr.mono (by decide)) (pa_cons (pv 0) (pa_cons pe_int pa_nil))) (fun _ _ => rfl))))))
    (pss_cons (ps_set (i := 6) sc__law_names.nd rfl (Or.inl rfl) (pe_cal C__law_draw (hr.mono (by decide)) (pa_cons (pv 0) (pa_cons pe_int pa_nil))))
    (pss_cons (ps_if (PW.pt (pw_and (pt_cmpR op_eq (pv 6) pe_int (nomark _)) (pw_and1 (pt_cmpR op_gt (pe_callB call_len_seq (by rfl) m_len PySem.boot_len (pa_cons (pv 2) pa_nil)) pe_int (nomark _)))))
      (pss_one (ps_set (i := 4) sc__law_names.nd rfl (Or.inl rfl) (pe_op op_add_str (pe_op op_add_str (pe_ix ix_list (pv 2) pe_int (fun _ _ => rfl)) pe_str) (pv 4))))
      pss_nil)
    (pss_cons (ps_if (PW.pt (pw_and (pt_cmpR op_eq (pv 6) pe_int (nomark _)) (pw_and (pt_cmpR op_gt (pe_callB call_len_seq (by rfl) m_len PySem.boot_len (pa_cons (pv 2) pa_nil)) pe_int (nomark _)) (pw_and1 (pt_cmpR op_lt (pe_callB call_len_str (by rfl) m_len PySem.boot_len (pa_cons (pe_ix ix_list (pv 2) pe_int (fun _ _ => rfl)) pa_nil)) pe_int (nomark _))))))
      (pss_one (ps_set (i := 4) sc__law_names.nd rfl (Or.inl rfl) (pe_op op_add_str (pe_ix ix_list (pv 2) pe_int (fun _ _ => rfl)) (pe_slice sl_str (pv 4) po_none (po_some pe_int)))))
      pss_nil)
    (pss_one (ps_if (PW.pt (pw_and (pt_cmpR op_notIn_seq (pv 4) (pv 2) (by rfl)) (pw_and1 (pt_cmpR op_gt (pe_cal C__law_draw (hr.mono (by decide)) (pa_cons (pv 0) (pa_cons pe_int pa_nil))) pe_int (nomark _)))))
      (pss_one (ps_expr (pe_bm PySem.F.plainAttrs_list PySem.F.slot_list_append PySem.F.type_list_append mt_append (pv 2) (pa_cons (pv 4) pa_nil))))
      pss_nil))))))))
    (pss_one (ps_ret (pe_callTy (T := "tuple") call_tuple_of (by rfl) m_tuple (by decide +kernel) (pa_cons (pe_callB (id := "sorted") cr_sortedS (by rfl) m_sorted (by decide +kernel) (pa_cons (pv 2) pa_nil)) pa_nil)))))), ?_⟩
    walk_at "rd"
    refine ⟨sz (by decide), fun L nL => ?_⟩
    have nLs := src_ne hA nL
    have hL0 := upd_same (H := H) (a := L) (o := .lst (([] : List Str).map V.str))
    have hA0 := src_upd hA nLs (u := .lst (([] : List Str).map V.str))
    have b0 : SameBut src H (upd H L (.lst (([] : List Str).map V.str))) := Bx.Same.but (same_new nL)
    walk_at "rd"
    refine ⟨by omega, by omega, for_it walk_range (fun i σ H' => ∃ (o3 o4 o5 o6 : Option V) (ms : List Str), σ = [some (.ref src), some (.int (k : Int)), some (.ref L), o3, o4, o5, o6] ∧ SameBut src H H' ∧ Src H' src ∧ H' L = some (.lst (ms.map V.str)) ∧ ms.length ≤ i ∧ (∀ z ∈ ms, Tx 17 z) ∧ (∀ z, ms[0]? = some z → Tx 8 z) ∧ ms.Nodup)
      ⟨none, none, none, none, [], rfl, b0, hA0, hL0, Nat.le_refl _, (fun z hz => by cases hz), (fun z hz => by cases hz), List.nodup_nil⟩ (fun _ _ _ _ _ => trivial) ?_ ?_⟩
    · rintro i x σ H1 H1' hi ⟨o3, o4, o5, o6, ms, rfl, s1, hA1, hL1, hml, t17, t8, nd⟩ ⟨rfl, rfl⟩
      have hi5 : i < 5 := by omega
      walk_at "rd"
      refine draw_of (lim := 26) hA1 (by decide) fun r H2 h0 h1 s2 hA2 => ?_
      obtain ⟨c, hc, hm⟩ := pick (L := "abcdefghijklmnopqrstuvwxyz") h0 h1
      have tc := tx_sign (by decide +kernel) hm
      refine ⟨_, _, _, rfl, rfl, (by decide), hc, ?_⟩
      walk_at "rd"
      refine ⟨sz (by decide), fun l0 nl0 => ?_⟩
      have nl0s := src_ne hA2 nl0
      have hl0 := upd_same (H := H2) (a := l0) (o := .lst ([0, 0, 1, 7].map V.int))
      walk_at "rd"
      refine draw_of (lim := 4) (src_upd hA2 nl0s) (by decide) fun r4 H3 h2 h3 s3 hA3 => ?_
      have hl3 := s3 _ _ nl0s.symm hl0
      obtain ⟨m, rfl⟩ := Int.eq_ofNat_of_zero_le h2
      have hm4 : m < [(0 : Int), 0, 1, 7].length := by
        show m < 4
        omega
      refine ⟨_, _, _, _, rfl, rfl, sq hl3, int_at (k := m) hm4, ?_⟩
      have he : (0 : Int) ≤ [(0 : Int), 0, 1, 7][m] ∧ [(0 : Int), 0, 1, 7][m] ≤ 7 := by
        have a : ∀ x ∈ [(0 : Int), 0, 1, 7], 0 ≤ x ∧ x ≤ 7 := by decide
        exact a _ (List.getElem_mem hm4)
      generalize [(0 : Int), 0, 1, 7][m] = e at he ⊢
      have b3 : SameBut src H1' H3 := s2.trans (but_new nl0 s3)
      have nLH1 : ∀ {H' : Hp}, SameBut src H1' H' → H' L = some (.lst (ms.map V.str)) := fun s => s _ _ nLs.symm hL1
      walk_at "rd"
      refine ⟨by omega, by omega, for_it walk_range (fun j σ H' => ∃ (o5 : Option V) (z : Str), σ = [some (.ref src), some (.int (k : Int)), some (.ref L), some (.int (0 + (i : Nat))), some (.str z), o5, o6] ∧ SameBut src H1' H' ∧ Src H' src ∧ Tx (1 + j) z)
        ⟨o5, _, rfl, b3, hA3, tc⟩ (fun _ _ _ _ _ => trivial) ?_ ?_⟩
      · rintro j y σ H4 H4' hj ⟨o5, z, rfl, s4, hA4, tz⟩ ⟨rfl, rfl⟩
        walk_at "rd"
        refine draw_of (lim := 36) hA4 (by decide) fun r5 H5 h4 h5 s5 hA5 => ?_
        obtain ⟨c, hc, hm⟩ := pick (L := "abcdefghijklmnopqrstuvwxyz0123456789") h4 h5
        have tc2 := tx_sign (by decide +kernel) hm
        refine ⟨_, _, _, rfl, rfl, (by decide), hc, ?_⟩
        walk_at "rd"
        have tn := tz.app (m := 1) ⟨tc2.2.1, tc2.2.2⟩
        refine ⟨szl (by have := tz.2.1; have := tc2.2.1; omega), ?_⟩
        exact ⟨_, _, rfl, s4.trans s5, hA5, by rw [← Nat.add_assoc]; exact tn⟩
      rintro σ H4 ⟨o5, z, rfl, s4, hA4, tz⟩
      have tz8 : Tx 8 z := tz.le (by omega)
      walk_at "rd"
      refine draw_of (lim := 6) hA4 (by decide) fun r6 H5 h4 h5 s5 hA5 => ?_
      have b5 := s4.trans s5
      have hL5 := nLH1 b5
      have first : 0 < ms.length → ∃ z0, ms[0]? = some z0 ∧ atI (ms.map V.str) 0 = some (.str z0) ∧ Tx 8 z0 := fun h => by
        have e := List.getElem?_eq_getElem h
        exact ⟨ms[0], e, atI_nat (j := 0) (by rw [List.getElem?_map, e]; rfl), t8 _ e⟩
      dsimp only [gName]
      refine st_gi (i := 4) (fun v H' => H' = H5 ∧ ∃ z', v = .str z' ∧ Tx 17 z' ∧ (ms.length = 0 → Tx 8 z')) (fun D' hD' => ?_) ?_
      · have keep := hD' (.str z) H5 ⟨rfl, z, rfl, tz8.le (by decide), fun _ => tz8⟩
        walk_at "rd"
        refine ite2 (fun h6 => ?_) (fun h6 => ?_)
        · walk_at "rd"
          refine ⟨_, _, rfl, .inl (sq hL5), ?_⟩
          walk_at "rd"
          refine ite2 (fun h7 => ?_) (fun h7 => ?_)
          · have h8 : 0 < ms.length := by
              have z1 : (0 : Int) < ((ms.map V.str).length : Nat) := of_decide_eq_true h7
              rw [List.length_map] at z1
              omega
            obtain ⟨z0, e0, a0, t0⟩ := first h8
            walk_at "rd"
            refine ⟨_, _, _, _, rfl, rfl, sq hL5, a0, ?_⟩
            walk_at "rd"
            have td := t0.app (m := 1) (y := Str.ofString ".") ⟨by decide +kernel, by decide +kernel⟩
            refine ⟨szl (by have := td.2.1; rw [app_len] at this; omega), ?_⟩
            walk_at "rd"
            have te := td.app (m := 8) ⟨tz8.2.1, tz8.2.2⟩
            refine ⟨sz (show (z0 ++ Str.ofString ".").length + z.length ≤ 100000 by have := te.2.1; rw [app_len] at this; omega), ?_⟩
            exact hD' _ H5 ⟨rfl, _, rfl, te, fun h => absurd h (by omega)⟩
          · walk_at "rd"
            exact keep
        · walk_at "rd"
          exact keep
      rintro v H6 ⟨rfl, z1, rfl, tz1, tz10⟩
      refine st_gi (i := 4) (fun v H' => H' = H6 ∧ ∃ z', v = .str z' ∧ Tx 17 z' ∧ (ms.length = 0 → Tx 8 z')) (fun D' hD' => ?_) ?_
      · have keep := hD' (.str z1) H6 ⟨rfl, z1, rfl, tz1, tz10⟩
        walk_at "rd"
        refine ite2 (fun h6 => ?_) (fun h6 => ?_)
        · walk_at "rd"
          refine ⟨_, _, rfl, .inl (sq hL5), ?_⟩
          walk_at "rd"
          refine ite2 (fun h7 => ?_) (fun h7 => ?_)
          · have h8 : 0 < ms.length := by
              have z1 : (0 : Int) < ((ms.map V.str).length : Nat) := of_decide_eq_true h7
              rw [List.length_map] at z1
              omega
            obtain ⟨z0, e0, a0, t0⟩ := first h8
            walk_at "rd"
            refine ⟨_, _, _, _, rfl, rfl, sq hL5, a0, ?_⟩
            walk_at "rd"
            refine ⟨sz (by have := t0.2.1; omega), ?_⟩
            walk_at "rd"
            refine ite2 (fun h9 => ?_) (fun h9 => ?_)
            · walk_at "rd"
              refine ⟨_, _, _, _, rfl, rfl, sq hL5, a0, ?_⟩
              walk_at "rd"
              refine ⟨sz (by have := tz1.2.1; omega), ?_⟩
              walk_at "rd"
              have te := t0.app (m := 1) (tx_cut tz1)
              refine ⟨sz (show z0.length + (cutS z1 none (some 1)).length ≤ 100000 by have := te.2.1; rw [app_len] at this; omega), ?_⟩
              exact hD' _ H6 ⟨rfl, _, rfl, te.le (by decide), fun h => absurd h (by omega)⟩
            · walk_at "rd"
              exact keep
          · walk_at "rd"
            exact keep
        · walk_at "rd"
          exact keep
      rintro v H7 ⟨rfl, z2, rfl, tz2, tz20⟩
      walk_at "rd"
      refine ⟨L, _, rfl, .inl (sq hL5), rfl, Bx.flat_all _, ?_⟩
      rw [Bx.inV_str]
      refine ⟨_, rfl, ite2 (fun h6 => ?_) (fun h6 => ?_)⟩
      · have nin : z2 ∉ ms := fun h => by
          rw [if_pos rfl] at h6
          simp [h] at h6
        walk_at "rd"
        refine draw_of (lim := 6) hA5 (by decide) fun r7 H8 _ _ s8 hA8 => ?_
        have b8 := b5.trans s8
        have hL8 := nLH1 b8
        walk_at "rd"
        refine ite2 (fun h7 => ?_) (fun h7 => ?_)
        · walk_at "rd"
          refine ⟨.inl ⟨rfl, _, sq hL8⟩, ?_⟩
          walk_at "rd"
          refine ⟨L, _, _, rfl, rfl, hL8, szl (by rw [List.length_map]; omega), ?_⟩
          refine ⟨_, _, _, _, ms ++ [z2], rfl, but_at nL (s1.trans b8), src_upd hA8 nLs, by rw [upd_same, List.map_append]; rfl, by rw [List.length_append]; show ms.length + 1 ≤ i + 1; omega, fun x hx => ?_, fun x hx => ?_, ?_⟩
          · rcases List.mem_append.mp hx with h | h
            · exact t17 x h
            · rw [List.mem_singleton.mp h]
              exact tz2
          · rcases Nat.eq_zero_or_pos ms.length with h | h
            · have e : ms = [] := List.length_eq_zero_iff.mp h
              subst e
              have e2 : z2 = x := Option.some.inj hx
              rw [← e2]
              exact tz20 rfl
            · rw [List.getElem?_append_left h] at hx
              exact t8 x hx
          · rw [List.nodup_append]
            refine ⟨nd, List.nodup_cons.mpr ⟨List.not_mem_nil, List.nodup_nil⟩, fun a ha b hb e => ?_⟩
            rw [List.mem_singleton.mp hb] at e
            exact nin (by rw [← e]; exact ha)
        · walk_at "rd"
          exact ⟨_, _, _, _, ms, rfl, s1.trans b8, hA8, hL8, by omega, t17, t8, nd⟩
      · walk_at "rd"
        exact ⟨_, _, _, _, ms, rfl, s1.trans b5, hA5, hL5, by omega, t17, t8, nd⟩
    · rintro σ H1 ⟨o3, o4, o5, o6, ms, rfl, s1, hA1, hL1, hml, t17, t8, nd⟩
      walk_at "rd"
      have hml5 : ms.length ≤ 5 := by omega
      refine ⟨L, ms, rfl, sq hL1, by omega, fun ys p pm st np => ?_⟩
      have u1 := same_new np (o := .lst (ys.map V.str))
      have hp := upd_same (H := H1) (a := p) (o := .lst (ys.map V.str))
      generalize upd H1 p (.lst (ys.map V.str)) = H2 at u1 hp ⊢
      refine ⟨p, _, rfl, .inl ⟨sq hp, fun r nr => ?_⟩⟩
      have u2 := same_new nr (o := .tup (ys.map V.str))
      have u := u1.trans u2
      exact q r ys _ (s1.trans (Bx.Same.but u)) (src_same hA1 u) (sqt upd_same) (asc_of st (pm.nodup_iff.mpr nd)) (fun x hx => t17 x (pm.mem_iff.mp hx)) (by rw [pm.length_eq]; exact hml5)
end
end K10
namespace K10
local macro_rules | `(tactic| walk_at "rd") => `(tactic| repeat (first | refine ⟨rfl, ?_⟩ | refine ⟨_, rfl, ?_⟩ | refine ⟨_, _, rfl, rfl, ?_⟩ | refine ⟨⟨_, rfl⟩, ?_⟩))
open PySem PySem.Spec PyProof.Rows L2 Bx TL Dx Zx Ow Sup NdefX Px
/-! ### renaming -/
abbrev Tb := List (Str × Str)
def tbV (t : Tb) : List (Key × V) := t.map fun p => (.inr p.1, .str p.2)
def rn (t : Tb) (z : Str) : Str := ((t.find? fun p => decide (p.1 = z)).map (·.2)).getD z
theorem val_tb : ∀ (t : Tb) (z : Str), (valV (tbV t) (.inr z)).getD (.str z) = .str (rn t z)
  | [], _ => rfl
  | p :: r, z => by
    have ih := val_tb r z
    unfold rn
    by_cases e : p.1 = z
    · have e2 : ((.inr p.1 : Key), V.str p.2).1 = .inr z := congrArg Sum.inr e
      show (valV (((.inr p.1 : Key), V.str p.2) :: tbV r) (.inr z)).getD _ = _
      rw [valV_pos e2, List.find?_cons, decide_eq_true e]
      rfl
    · have e2 : ¬ ((.inr p.1 : Key), V.str p.2).1 = .inr z := fun h => e (Sum.inr.inj h)
      show (valV (((.inr p.1 : Key), V.str p.2) :: tbV r) (.inr z)).getD _ = _
      rw [valV_neg e2, List.find?_cons, decide_eq_false e]
      exact ih
section
variable {P : Program} {w : World} {K : PySem.W.Frag} {mg : Str → Option Value} {base : Heap}
@[irreducible] def spRepl (K : PySem.W.Frag) : Sp := fun vs H Q _ => ∃ (a d : Addr) (ns : List Str) (t : Tb), vs = [.ref a, .ref d] ∧ (SqL K H a (ns.map V.str) ∨ SqT K H a (ns.map V.str)) ∧ H d = some (.dK (tbV t)) ∧ ns.length ≤ 100 ∧ ∀ r H', Same H H' → H r = none → H' r = some (.lst ((ns.map (rn t)).map V.str)) → Q (.ref r) H'
theorem ok_repl {f : Addr} {fd : FuncData} (F : Fun K "replace_names" "replace_names" s_replace_names f fd) : FnOk P w K mg base CX0 1 f fd ["names", "table"] (spRepl K) := by
  refine F.ok sc_replace_names (fun vs H Q E h => ?_) (fun cdv A outer s H vs Q E hr h => ?_)
  · unfold spRepl at h
    obtain ⟨a, d, ns, t, rfl, _⟩ := h
    rfl
  · unfold spRepl at h
    obtain ⟨a, d, ns, t, rfl, ha, hd, hl, q⟩ := h
    have hu := hu_of hr
    refine ⟨_, (pss_one (ps_ret (pe_lc (own := [("name", 2)]) (tt := tYes) rfl sc_replace_names.nd (pi_seq (pv 0)) (blkOk_by (N := n_replace_names) (sc := defScope s_replace_names) (by decide +kernel)) (fun _ _ _ _ _ => pg_name (i := 2) sc_replace_names.nd rfl (Or.inl rfl)) (fun _ _ _ _ _ => pts_nil) (fun _ _ _ _ _ => (pe_dget2 hu (pv 1) (pv 2) (pv 2) ⟨rfl, rfl, rfl, rfl⟩))))), ?_⟩
    walk_at "rd"
    refine seq_case ha fun J G wk hG D hD => ?_
    have hdD : d ≠ D := fun e => by rw [e, hD] at hd; cases hd
    refine lc_it wk (fun i H' => H' = upd H D (.lst (((ns.take i).map (rn t)).map V.str))) rfl (fun i H' _ e => e ▸ hG _ (same_new hD)) ?_ ?_
    · rintro i v H2 H3 hi rfl ⟨rfl, hx⟩
      obtain ⟨z, hz, rfl⟩ := at_map hx
      refine ⟨rfl, ?_⟩
      walk_at "rd"
      have hd2 : (upd H D (.lst (((ns.take i).map (rn t)).map V.str))) d = some (.dK (tbV t)) := by
        rw [upd_ne hdD]
        exact hd
      refine ⟨.inl ⟨_, .inl hd2⟩, ?_⟩
      walk_at "rd"
      refine ⟨_, DGet.k (k := .inr z) hd2, ?_⟩
      rw [val_tb]
      refine ⟨_, upd_same, ?_, ?_⟩
      · rw [List.length_map, List.length_map]
        exact szl (Nat.lt_of_le_of_lt (List.length_take_le' i ns) (by omega))
      · rw [upd_upd, List.take_add_one, hz, List.map_append, List.map_append]
        rfl
    rintro H2 rfl
    rw [List.length_map, List.take_length]
    exact q D _ (same_new hD) hD upd_same
/-! ### merge_names -/
def spMerge0 (K : PySem.W.Frag) : Sp := fun vs H Q _ => ∃ (p : Addr) (L : List (Addr × List Str)), vs = [.ref p] ∧ SqT K H p (L.map fun q => V.ref q.1) ∧ (∀ q ∈ L, SqL K H q.1 (q.2.map V.str) ∨ SqT K H q.1 (q.2.map V.str)) ∧ (L.map fun q => q.2).flatten.length ≤ 3000 ∧
  ∀ r H' ys, Same H H' → H r = none → PlT H' r (ys.map V.str) → sortedS ys = true → ys.Nodup → (∀ x, x ∈ ys ↔ x ∈ (L.map fun q => q.2).flatten) → Q (.ref r) H'
def spMerge (K : PySem.W.Frag) : Sp := fun vs H Q _ => ∃ (L : List (Addr × List Str)), vs = L.map (fun q => V.ref q.1) ∧ (∀ q ∈ L, SqL K H q.1 (q.2.map V.str) ∨ SqT K H q.1 (q.2.map V.str)) ∧ L.length ≤ 1000 ∧ (L.map fun q => q.2).flatten.length ≤ 3000 ∧
  ∀ r H' ys, Same H H' → H r = none → PlT H' r (ys.map V.str) → sortedS ys = true → ys.Nodup → (∀ x, x ∈ ys ↔ x ∈ (L.map fun q => q.2).flatten) → Q (.ref r) H'
theorem ok_merge_names {f : Addr} {fd : FuncData} (F : Fun K "merge_names" "merge_names" s_merge_names f fd) (m_set : mg "set" = none) (m_sorted : mg "sorted" = none) (m_tuple : mg "tuple" = none) : FnR P w K mg base CX0 1 f (spMerge K) := by
  have z := okStar (P := P) (w := w) (K := K) (mg := mg) (base := base) (sp := spMerge0 K) (k := 0) F sc_merge_names (fun _ _ _ _ _ _ rest => match rest with | [] => rfl | _ :: _ => rfl) (fun cdv A outer s H vs Q E hr h => ?_)
  · refine z.imp fun vs H Q E h => ?_
    obtain ⟨L, rfl, hL, hl, hn, q⟩ := h
    refine ⟨by rw [List.length_map]; exact sz (by omega), fun p np => ⟨p, L, rfl, sqt upd_same, fun x hx => (hL x hx).imp (Same.seq (same_new np)) (Bx.Same.tup (same_new np)), hn, fun r H' ys s1 n1 => q r H' ys ((same_new np).trans s1) ((same_new np).free n1)⟩⟩
  · obtain ⟨p, L, rfl, hT, hL, hn, q⟩ := h
    refine ⟨_, (pss_one (ps_ret (pe_callTy (T := "tuple") call_tupleF (by rfl) m_tuple (by decide +kernel) (pa_cons (pe_callB (id := "sorted") (Sx.cr_sortX rfl) (by rfl) m_sorted (by decide +kernel) (pa_cons (pe_callTy (T := "set") (Sx.cr_setX rfl) (by rfl) m_set (by decide +kernel) (pa_cons (pe_lc2 (own := [("names", 1), ("name", 2)]) (vs1 := [2]) (wi1 := iSeq K (tVar 1)) (tt := tYes) (tt1 := tYes) rfl sc_merge_names.nd (pi_tup (pv 0)) (blkOk_by (N := n_merge_names) (sc := defScope s_merge_names) (by decide +kernel)) (by decide) (fun _ _ _ _ _ => pg_name (i := 1) sc_merge_names.nd rfl (Or.inl rfl)) (fun _ _ _ _ _ => pts_nil) (fun _ _ _ _ _ => (pi_seq (pv 1))) (fun _ _ _ _ _ => pg_name (i := 2) sc_merge_names.nd rfl (Or.inl rfl)) (fun _ _ _ _ _ => pts_nil) (fun _ _ _ _ _ => (pv 2))) pa_nil)) pa_nil)) pa_nil)))), ?_⟩
    walk_at "rd"
    refine ⟨⟨_, hT⟩, fun D hD => ?_⟩
    refine walk_any (walk_tup (K := K) (a := p) (xs := L.map fun q => V.ref q.1)) (fun i H' => Same H H' ∧ H' D = some (.lst (((L.take i).map fun q => q.2).flatten.map V.str))) ⟨same_new hD, by rw [upd_same]; rfl⟩ (fun i H' _ h => Bx.Same.tup h.1 hT) ?_ ?_
    · rintro i x H1 H2 hi ⟨hs, hd⟩ ⟨rfl, hx⟩
      rw [List.length_map] at hi
      obtain ⟨y, hy, rfl⟩ : ∃ y, L[i]? = some y ∧ x = .ref y.1 := by
        rw [List.getElem?_map, List.getElem?_eq_getElem hi] at hx
        exact ⟨_, List.getElem?_eq_getElem hi, (Option.some.inj hx).symm⟩
      refine ⟨rfl, ?_⟩
      have hy2 := hL y (List.mem_of_getElem? hy)
      have hfl : ((L.take (i + 1)).map fun q => q.2).flatten = ((L.take i).map fun q => q.2).flatten ++ y.2 := by
        rw [List.take_add_one, hy, List.map_append, List.flatten_append]
        simp
      have hle : ∀ j, (((L.take j).map fun q => q.2).flatten).length ≤ 3000 := fun j => by
        have e := List.take_append_drop j L
        have e2 : (L.map fun q => q.2).flatten.length = ((L.take j).map fun q => q.2).flatten.length + ((L.drop j).map fun q => q.2).flatten.length := by
          rw [← List.length_append, ← List.flatten_append, ← List.map_append, e]
        omega
      walk_at "rd"
      have hstep : ∀ (j : Nat) (x : V) (H1 : Hp), (y.2.map V.str)[j]? = some x → Same H H1 ∧ H1 D = some (.lst ((((L.take i).map fun q => q.2).flatten ++ y.2.take j).map V.str)) →
          ∃ acc, H1 D = some (.lst acc) ∧ acc.length < sizeLine ∧ Same H (upd H1 D (.lst (acc ++ [x]))) ∧ (upd H1 D (.lst (acc ++ [x]))) D = some (.lst ((((L.take i).map fun q => q.2).flatten ++ y.2.take (j + 1)).map V.str)) := by
        rintro j x H1 hj ⟨h1, h2⟩
        refine ⟨_, h2, ?_, same_at hD h1, ?_⟩
        · have e1 := hle (i + 1)
          rw [hfl, List.length_append] at e1
          rw [List.length_map, List.length_append, List.length_take]
          exact szl (by omega)
        · obtain ⟨u, hu, rfl⟩ : ∃ u, y.2[j]? = some u ∧ x = .str u := by
            rw [List.getElem?_map] at hj
            cases e : y.2[j]? with
            | none =>
              rw [e] at hj
              cases hj
            | some u =>
              rw [e] at hj
              exact ⟨u, rfl, (Option.some.inj hj).symm⟩
          rw [upd_same, List.take_add_one, hu, ← List.append_assoc, List.map_append (l₂ := (some u).toList)]
          rfl
      have hend : ∀ H1, Same H H1 ∧ H1 D = some (.lst ((((L.take i).map fun q => q.2).flatten ++ y.2.take (y.2.map V.str).length).map V.str)) → Same H H1 ∧ H1 D = some (.lst (((L.take (i + 1)).map fun q => q.2).flatten.map V.str)) := by
        rintro H1 ⟨h1, h2⟩
        rw [List.length_map, List.take_length, ← hfl] at h2
        exact ⟨h1, h2⟩
      have h0 : Same H H2 ∧ H2 D = some (.lst ((((L.take i).map fun q => q.2).flatten ++ y.2.take 0).map V.str)) := by
        rw [List.take_zero, List.append_nil]
        exact ⟨hs, hd⟩
      rcases hy2 with hl | ht
      · refine .inl ⟨⟨_, hs.seq hl⟩, walk_any walk_list (fun j H1 => Same H H1 ∧ H1 D = some (.lst ((((L.take i).map fun q => q.2).flatten ++ y.2.take j).map V.str))) h0 (fun j H' _ h => h.1.seq hl) ?_ hend⟩
        rintro j x H1 H' hj hp ⟨rfl, hx⟩
        refine ⟨rfl, ?_⟩
        walk_at "rd"
        exact hstep j x _ hx hp
      · refine .inr ⟨⟨_, Bx.Same.tup hs ht⟩, walk_any walk_tup (fun j H1 => Same H H1 ∧ H1 D = some (.lst ((((L.take i).map fun q => q.2).flatten ++ y.2.take j).map V.str))) h0 (fun j H' _ h => Bx.Same.tup h.1 ht) ?_ hend⟩
        rintro j x H1 H' hj hp ⟨rfl, hx⟩
        refine ⟨rfl, ?_⟩
        walk_at "rd"
        exact hstep j x _ hx hp
    · rintro H1 ⟨hs, hd⟩
      rw [List.length_map, List.take_length] at hd
      refine ⟨_, _, rfl, .inl (sq hd), by omega, fun p1 ys n1 hm nd hlen => ?_⟩
      refine ⟨_, _, rfl, upd_same, by omega, fun zs p2 pm hst n2 => ?_⟩
      refine ⟨_, _, rfl, sq upd_same, fun r o nr od => ?_⟩
      have s3 : Same H (upd (upd (upd H1 p1 (Sx.SetV P w p1 ys)) p2 (.lst (zs.map V.str))) r (.frz o (.tup (zs.map V.str)))) := ((hs.trans (same_new n1)).trans (same_new n2)).trans (same_new nr)
      refine q r _ zs s3 (((hs.trans (same_new n1)).trans (same_new n2)).free nr) ⟨o, upd_same, od⟩ hst (pm.nodup_iff.mpr nd) fun x => ?_
      rw [pm.mem_iff, hm x]
end
end K10
namespace K10
open PySem PySem.Spec PyProof.Rows L2 Bx TL Dx
/-! ### clauses, assignments -/
def B01 (f : Str → Int) : Prop := ∀ z, f z = 0 ∨ f z = 1
def hold (f : Str → Int) (c : Cl) : Bool := c.any fun x => decide (f x.1 = x.2)
def sat (cs : List Cl) (f : Str → Int) : Bool := cs.all (hold f)
def Vc (ns : List Str) (c : Cl) : Prop := Up c ∧ ∀ l ∈ c, l.1 ∈ ns ∧ (l.2 = 0 ∨ l.2 = 1)
def rid (c : Cl) (x : Lit) : Cl := c.filter fun y => decide (y ≠ x)
def Follows (cs : List Cl) (c : Cl) : Prop := ∀ f, B01 f → sat cs f = true → hold f c = true
def Prime (ns : List Str) (cs : List Cl) (c : Cl) : Prop := Vc ns c ∧ Follows cs c ∧ ∀ x ∈ c, ¬ Follows cs (rid c x)
theorem hold_mem {f : Str → Int} {c d : Cl} (h : ∀ l, l ∈ c ↔ l ∈ d) : hold f c = hold f d := by
  rw [Bool.eq_iff_iff]
  unfold hold
  rw [List.any_eq_true, List.any_eq_true]
  exact ⟨fun ⟨x, h1, h2⟩ => ⟨x, (h x).mp h1, h2⟩, fun ⟨x, h1, h2⟩ => ⟨x, (h x).mpr h1, h2⟩⟩
theorem hold_same {f g : Str → Int} {c : Cl} (h : ∀ l ∈ c, f l.1 = g l.1) : hold f c = hold g c := by
  rw [Bool.eq_iff_iff]
  unfold hold
  rw [List.any_eq_true, List.any_eq_true]
  exact ⟨fun ⟨x, h1, h2⟩ => ⟨x, h1, by rw [← h x h1]; exact h2⟩, fun ⟨x, h1, h2⟩ => ⟨x, h1, by rw [h x h1]; exact h2⟩⟩
theorem vc_rid {ns : List Str} {c : Cl} (h : Vc ns c) (x : Lit) : Vc ns (rid c x) := ⟨h.1.sublist List.filter_sublist, fun l hl => h.2 l (List.mem_filter.mp hl).1⟩
theorem up_nd {c : Cl} (h : Up c) : (c.map (·.1)).Nodup := List.pairwise_map.mpr (h.imp fun {a b} (z : a.1.cps.toList < b.1.cps.toList) (e : a.1 = b.1) => List.lt_irrefl b.1.cps.toList (by rw [e] at z; exact z))
theorem vc_len {ns : List Str} {c : Cl} (v : Vc ns c) : c.length ≤ ns.length := by
  have q := nodup_le (c.map (·.1)) ns (up_nd v.1) fun s hs => by
    obtain ⟨l, hl, rfl⟩ := List.mem_map.mp hs
    exact (v.2 l hl).1
  rwa [List.length_map] at q
theorem up_same : ∀ {c d : Cl}, Up c → Up d → (∀ x, x ∈ c ↔ x ∈ d) → c = d
  | [], [], _, _, _ => rfl
  | [], y :: d, _, _, h => absurd ((h y).mpr (List.mem_cons_self ..)) List.not_mem_nil
  | x :: c, [], _, _, h => absurd ((h x).mp (List.mem_cons_self ..)) List.not_mem_nil
  | x :: c, y :: d, uc, ud, h => by
    obtain ⟨c1, c2⟩ := List.pairwise_cons.mp uc
    obtain ⟨d1, d2⟩ := List.pairwise_cons.mp ud
    have e : x = y := by
      rcases List.mem_cons.mp ((h x).mp (List.mem_cons_self ..)) with e | e
      · exact e
      · rcases List.mem_cons.mp ((h y).mpr (List.mem_cons_self ..)) with e2 | e2
        · exact e2.symm
        · exact absurd (List.lt_trans (d1 x e) (c1 y e2)) (List.lt_irrefl _)
    subst e
    have nx : ∀ z ∈ c, z ≠ x := fun z hz e => by
      have q := c1 z hz
      rw [e] at q
      exact List.lt_irrefl _ q
    have ny : ∀ z ∈ d, z ≠ x := fun z hz e => by
      have q := d1 z hz
      rw [e] at q
      exact List.lt_irrefl _ q
    rw [up_same c2 d2 fun z => ⟨fun hz => (List.mem_cons.mp ((h z).mp (List.mem_cons_of_mem _ hz))).resolve_left (nx z hz), fun hz => (List.mem_cons.mp ((h z).mpr (List.mem_cons_of_mem _ hz))).resolve_left (ny z hz)⟩]

/-! ### masks -/
def idx : List Str → (Str → Int) → Nat
  | [], _ => 0
  | z :: ns, f => (if f z = 1 then 2 ^ ns.length else 0) + idx ns f
theorem idx_lt : ∀ (ns : List Str) (f : Str → Int), idx ns f < 2 ^ ns.length
  | [], _ => Nat.one_pos
  | z :: ns, f => by
    have ih := idx_lt ns f
    show (if f z = 1 then 2 ^ ns.length else 0) + idx ns f < 2 ^ (ns.length + 1)
    rw [Nat.pow_succ]
    split <;> omega
theorem idx_same : ∀ {ns : List Str} {f g : Str → Int}, (∀ z ∈ ns, f z = g z) → idx ns f = idx ns g
  | [], _, _, _ => rfl
  | z :: ns, f, g, h => by
    show (if f z = 1 then 2 ^ ns.length else 0) + idx ns f = (if g z = 1 then 2 ^ ns.length else 0) + idx ns g
    rw [h z List.mem_cons_self, idx_same fun y hy => h y (List.mem_cons_of_mem _ hy)]
abbrev full (ns : List Str) : Nat := 2 ^ 2 ^ ns.length
def FM (ns : List Str) (cs : List Cl) (M : Nat) : Prop := M < full ns ∧ ∀ f, B01 f → M.testBit (idx ns f) = !sat cs f
def Imp (ns : List Str) (M : Nat) (c : Cl) : Prop := ∀ f, B01 f → hold f c = false → M.testBit (idx ns f) = true
def PrimeM (ns : List Str) (M : Nat) (c : Cl) : Prop := Vc ns c ∧ Imp ns M c ∧ ∀ x ∈ c, ¬ Imp ns M (rid c x)
theorem imp_fm {ns : List Str} {cs : List Cl} {M : Nat} (h : FM ns cs M) (c : Cl) : Imp ns M c ↔ Follows cs c := by
  constructor
  · intro i f b s
    cases e : hold f c with
    | true => rfl
    | false =>
      have z := i f b e
      rw [h.2 f b, s] at z
      cases z
  · intro i f b e
    rw [h.2 f b]
    cases s : sat cs f with
    | false => rfl
    | true =>
      rw [i f b s] at e
      cases e
theorem prime_fm {ns : List Str} {cs : List Cl} {M : Nat} (h : FM ns cs M) (c : Cl) : PrimeM ns M c ↔ Prime ns cs c := by
  unfold PrimeM Prime
  rw [imp_fm h]
  exact ⟨fun ⟨a, b, d⟩ => ⟨a, b, fun x hx z => d x hx ((imp_fm h _).mpr z)⟩, fun ⟨a, b, d⟩ => ⟨a, b, fun x hx z => d x hx ((imp_fm h _).mp z)⟩⟩
theorem fm_all {ns : List Str} {cs : List Cl} (h : ([] : Cl) ∈ cs) : FM ns cs (full ns - 1) := by
  have p : 0 < full ns := Nat.pow_pos (by decide)
  refine ⟨by omega, fun f _ => ?_⟩
  rw [Nat.testBit_two_pow_sub_one, decide_eq_true (idx_lt ns f)]
  have e : sat cs f = false := List.all_eq_false.mpr ⟨[], h, by simp [hold]⟩
  rw [e]
  rfl
theorem fm_none {ns : List Str} : FM ns [] 0 := ⟨Nat.pow_pos (by decide), fun f _ => by rw [Nat.zero_testBit]; rfl⟩
/-- z has the value v -/
def wd (cs : List Cl) (z : Str) (v : Int) : List Cl := (cs.filter fun c => !decide ((z, v) ∈ c)).map fun c => c.filter fun l => decide (l.1 ≠ z)
theorem sat_wd {cs : List Cl} {z : Str} {v : Int} {f : Str → Int} (h : f z = v) : sat (wd cs z v) f = sat cs f := by
  unfold sat wd
  rw [Bool.eq_iff_iff, List.all_eq_true, List.all_eq_true]
  have one : ∀ c : Cl, (z, v) ∉ c → hold f (c.filter fun l => decide (l.1 ≠ z)) = hold f c := fun c hc => by
    rw [Bool.eq_iff_iff]
    unfold hold
    rw [List.any_eq_true, List.any_eq_true]
    refine ⟨fun ⟨x, h1, h2⟩ => ⟨x, (List.mem_filter.mp h1).1, h2⟩, fun ⟨x, h1, h2⟩ => ⟨x, List.mem_filter.mpr ⟨h1, decide_eq_true fun e => hc ?_⟩, h2⟩⟩
    have e2 : f x.1 = x.2 := of_decide_eq_true h2
    rw [e, h] at e2
    rw [← e, e2]
    exact h1
  constructor
  · intro g c hc
    by_cases m : (z, v) ∈ c
    · exact List.any_eq_true.mpr ⟨_, m, decide_eq_true h⟩
    · have q := g _ (List.mem_map.mpr ⟨c, List.mem_filter.mpr ⟨hc, by rw [decide_eq_false m]; rfl⟩, rfl⟩)
      rwa [one c m] at q
  · intro g d hd
    obtain ⟨c, hc, rfl⟩ := List.mem_map.mp hd
    obtain ⟨h1, h2⟩ := List.mem_filter.mp hc
    have m : (z, v) ∉ c := by simpa using h2
    rw [one c m]
    exact g c h1
theorem vc_wd {z : Str} {ns : List Str} {cs : List Cl} {v : Int} (h : ∀ c ∈ cs, Vc (z :: ns) c) : ∀ c ∈ wd cs z v, Vc ns c := fun d hd => by
  obtain ⟨c, hc, rfl⟩ := List.mem_map.mp hd
  have q := h c (List.mem_filter.mp hc).1
  refine ⟨q.1.sublist List.filter_sublist, fun l hl => ?_⟩
  obtain ⟨h1, h2⟩ := List.mem_filter.mp hl
  have h3 := q.2 l h1
  exact ⟨(List.mem_cons.mp h3.1).resolve_left (of_decide_eq_true h2), h3.2⟩
theorem wd_len (cs : List Cl) (z : Str) (v : Int) : (wd cs z v).length ≤ cs.length := by
  unfold wd
  rw [List.length_map]
  exact List.length_filter_le _ _
theorem fm_step {z : Str} {ns : List Str} {cs : List Cl} {lo hi : Nat} (h0 : FM ns (wd cs z 0) lo) (h1 : FM ns (wd cs z 1) hi) : FM (z :: ns) cs (lo ||| hi * 2 ^ 2 ^ ns.length) := by
  have e : full (z :: ns) = full ns * full ns := by
    show 2 ^ 2 ^ (ns.length + 1) = 2 ^ 2 ^ ns.length * 2 ^ 2 ^ ns.length
    rw [← Nat.pow_add, Nat.pow_succ]
    congr 1
    omega
  have p : 0 < full ns := Nat.pow_pos (by decide)
  refine ⟨?_, fun f b => ?_⟩
  · refine Nat.or_lt_two_pow ?_ ?_
    · show lo < full (z :: ns)
      rw [e]
      exact Nat.lt_of_lt_of_le h0.1 (Nat.le_mul_of_pos_right _ p)
    · show hi * full ns < full (z :: ns)
      rw [e]
      exact Nat.mul_lt_mul_of_pos_right h1.1 p
  · rw [Nat.testBit_or, Nat.testBit_mul_two_pow]
    show (lo.testBit ((if f z = 1 then 2 ^ ns.length else 0) + idx ns f) || _) = _
    have lt := idx_lt ns f
    rcases b z with hz | hz
    · rw [hz]
      show (lo.testBit (0 + idx ns f) || (decide (2 ^ ns.length ≤ (if f z = 1 then 2 ^ ns.length else 0) + idx ns f) && _)) = _
      rw [hz]
      show (lo.testBit (0 + idx ns f) || (decide (2 ^ ns.length ≤ 0 + idx ns f) && _)) = _
      rw [Nat.zero_add, decide_eq_false (by omega), Bool.false_and, Bool.or_false, h0.2 f b, sat_wd hz]
    · rw [if_pos hz]
      show (_ || (decide (2 ^ ns.length ≤ (if f z = 1 then 2 ^ ns.length else 0) + idx ns f) && hi.testBit ((if f z = 1 then 2 ^ ns.length else 0) + idx ns f - 2 ^ ns.length))) = _
      rw [if_pos hz, Nat.testBit_lt_two_pow (x := lo) (i := 2 ^ ns.length + idx ns f) (Nat.lt_of_lt_of_le h0.1 (Nat.pow_le_pow_right (by decide) (Nat.le_add_right _ _))), decide_eq_true (Nat.le_add_right _ _), Nat.add_sub_cancel_left, Bool.true_and, Bool.false_or, h1.2 f b, sat_wd hz]
/-! ### primes of a mask -/
/-- an assignment in which a clause fails -/
theorem fails_in {c : Cl} (u : Up c) (b : ∀ l ∈ c, l.2 = 0 ∨ l.2 = 1) : ∃ f, B01 f ∧ hold f c = false := by
  refine ⟨fun z => if (z, (0 : Int)) ∈ c then 1 else 0, fun z => ?_, ?_⟩
  · by_cases m : (z, (0 : Int)) ∈ c
    · exact .inr (if_pos m)
    · exact .inl (if_neg m)
  · unfold hold
    rw [List.any_eq_false]
    intro x hx e
    have e2 : (if (x.1, (0 : Int)) ∈ c then (1 : Int) else 0) = x.2 := of_decide_eq_true e
    rcases b x hx with h | h
    · have m : (x.1, (0 : Int)) ∈ c := by rw [← h]; exact hx
      rw [if_pos m, h] at e2
      cases e2
    · by_cases m : (x.1, (0 : Int)) ∈ c
      · have nd := up_nd u
        have key : ∀ {d : Cl}, (d.map (·.1)).Nodup → ∀ {p q : Lit}, p ∈ d → q ∈ d → p.1 = q.1 → p = q := by
          intro d
          induction d with
          | nil => exact fun _ _ _ hp => nomatch hp
          | cons y d ih =>
            intro nd p q hp hq e
            obtain ⟨n1, n2⟩ := List.nodup_cons.mp nd
            rcases List.mem_cons.mp hp with e1 | hp <;> rcases List.mem_cons.mp hq with e2 | hq
            · rw [e1, e2]
            · exact (n1 (List.mem_map.mpr ⟨q, hq, by rw [← e1]; exact e.symm⟩)).elim
            · exact (n1 (List.mem_map.mpr ⟨p, hp, by rw [← e2]; exact e⟩)).elim
            · exact ih n2 hp hq e
        have q := key nd hx m rfl
        rw [q] at h
        cases h
      · rw [if_neg m, h] at e2
        cases e2
theorem pm_zero {ns : List Str} {c : Cl} : ¬ PrimeM ns 0 c := fun h => by
  obtain ⟨f, b, e⟩ := fails_in h.1.1 fun l hl => (h.1.2 l hl).2
  have z := h.2.1 f b e
  rw [Nat.zero_testBit] at z
  cases z
theorem pm_all {ns : List Str} {c : Cl} : PrimeM ns (full ns - 1) c ↔ c = [] := by
  have all : ∀ d, Imp ns (full ns - 1) d := fun d f _ _ => by rw [Nat.testBit_two_pow_sub_one, decide_eq_true (idx_lt ns f)]
  constructor
  · intro h
    cases c with
    | nil => rfl
    | cons x c => exact (h.2.2 x List.mem_cons_self (all _)).elim
  · rintro rfl
    exact ⟨⟨List.Pairwise.nil, fun l hl => nomatch hl⟩, all _, fun x hx => nomatch hx⟩
section
variable {z : Str} {ns : List Str} {M : Nat}
def put1 (f : Str → Int) (z : Str) (v : Int) : Str → Int := fun y => if y = z then v else f y
theorem put1_01 {f : Str → Int} {v : Int} (b : B01 f) (h : v = 0 ∨ v = 1) : B01 (put1 f z v) := fun y => by
  unfold put1
  split
  · exact h
  · exact b y
theorem hold_put {f : Str → Int} {v : Int} {c : Cl} (nz : ∀ l ∈ c, l.1 ≠ z) : hold (put1 f z v) c = hold f c := hold_same fun l hl => if_neg (nz l hl)
theorem idx_put {f : Str → Int} {v : Int} (hz : z ∉ ns) : idx ns (put1 f z v) = idx ns f := idx_same fun y hy => if_neg fun (e : y = z) => hz (by rw [← e]; exact hy)
theorem put_self (f : Str → Int) (v : Int) : put1 f z v z = v := if_pos rfl
theorem bit_low (i : Nat) (h : i < 2 ^ ns.length) : (M % 2 ^ 2 ^ ns.length).testBit i = M.testBit i := by rw [Nat.testBit_mod_two_pow, decide_eq_true h, Bool.true_and]
theorem bit_high (i : Nat) : (M / 2 ^ 2 ^ ns.length).testBit i = M.testBit (2 ^ ns.length + i) := by rw [Nat.testBit_div_two_pow, Nat.add_comm]
theorem idx_cons (f : Str → Int) : idx (z :: ns) f = (if f z = 1 then 2 ^ ns.length else 0) + idx ns f := rfl
theorem imp_one {d : Cl} (hz : z ∉ ns) (nz : ∀ l ∈ d, l.1 ≠ z) : Imp (z :: ns) M ((z, 1) :: d) ↔ Imp ns (M % 2 ^ 2 ^ ns.length) d := by
  constructor
  · intro h f b e
    have q := h (put1 f z 0) (put1_01 b (.inl rfl)) (by
      show (decide (put1 f z 0 z = 1) || hold (put1 f z 0) d) = false
      rw [put_self, hold_put nz, e]
      rfl)
    rw [idx_cons, put_self, idx_put hz] at q
    rw [bit_low _ (idx_lt ns f)]
    simpa using q
  · intro h f b e
    have e2 : (decide (f z = 1) || hold f d) = false := e
    rw [Bool.or_eq_false_iff] at e2
    have q := h f b e2.2
    rw [bit_low _ (idx_lt ns f)] at q
    rw [idx_cons, if_neg (of_decide_eq_false e2.1), Nat.zero_add]
    exact q
theorem imp_zero {d : Cl} (hz : z ∉ ns) (nz : ∀ l ∈ d, l.1 ≠ z) : Imp (z :: ns) M ((z, 0) :: d) ↔ Imp ns (M / 2 ^ 2 ^ ns.length) d := by
  constructor
  · intro h f b e
    have q := h (put1 f z 1) (put1_01 b (.inr rfl)) (by
      show (decide (put1 f z 1 z = 0) || hold (put1 f z 1) d) = false
      rw [put_self, hold_put nz, e]
      rfl)
    rw [idx_cons, put_self, idx_put hz, if_pos rfl] at q
    rw [bit_high]
    exact q
  · intro h f b e
    have e2 : (decide (f z = 0) || hold f d) = false := e
    rw [Bool.or_eq_false_iff] at e2
    have q := h f b e2.2
    rw [bit_high] at q
    rw [idx_cons, if_pos ((b z).resolve_left (of_decide_eq_false e2.1))]
    exact q
theorem imp_free {c : Cl} (hz : z ∉ ns) (nz : ∀ l ∈ c, l.1 ≠ z) : Imp (z :: ns) M c ↔ Imp ns (M % 2 ^ 2 ^ ns.length) c ∧ Imp ns (M / 2 ^ 2 ^ ns.length) c := by
  rw [← imp_one hz nz, ← imp_zero hz nz]
  constructor
  · intro h
    refine ⟨fun f b e => h f b ?_, fun f b e => h f b ?_⟩
    · exact (Bool.or_eq_false_iff.mp (show (decide (f z = 1) || hold f c) = false from e)).2
    · exact (Bool.or_eq_false_iff.mp (show (decide (f z = 0) || hold f c) = false from e)).2
  · intro ⟨h1, h0⟩ f b e
    rcases b z with hz | hz
    · refine h1 f b ?_
      show (decide (f z = 1) || hold f c) = false
      rw [e, hz]
      rfl
    · refine h0 f b ?_
      show (decide (f z = 0) || hold f c) = false
      rw [e, hz]
      rfl
theorem imp_and {a b : Nat} {c : Cl} : Imp ns (a &&& b) c ↔ Imp ns a c ∧ Imp ns b c := by
  constructor
  · intro h
    refine ⟨fun f x e => ?_, fun f x e => ?_⟩
    · have q := h f x e
      rw [Nat.testBit_and, Bool.and_eq_true] at q
      exact q.1
    · have q := h f x e
      rw [Nat.testBit_and, Bool.and_eq_true] at q
      exact q.2
  · intro ⟨h1, h2⟩ f x e
    rw [Nat.testBit_and, h1 f x e, h2 f x e]
    rfl
/-- z stands first, or nowhere -/
theorem vc_head {c : Cl} (up : ∀ y ∈ ns, z.cps.toList < y.cps.toList) (v : Vc (z :: ns) c) : (Vc ns c ∧ ∀ l ∈ c, l.1 ≠ z) ∨ ∃ k d, (k = 0 ∨ k = 1) ∧ c = (z, k) :: d ∧ Vc ns d ∧ ∀ l ∈ d, l.1 ≠ z := by
  cases c with
  | nil => exact .inl ⟨⟨List.Pairwise.nil, fun l hl => nomatch hl⟩, fun l hl => nomatch hl⟩
  | cons x d =>
    obtain ⟨u1, u2⟩ := List.pairwise_cons.mp v.1
    have tail : ∀ l ∈ d, l.1 ≠ z := fun l hl e => by
      have q := u1 l hl
      rcases List.mem_cons.mp (v.2 x List.mem_cons_self).1 with e2 | h
      · rw [e2, e] at q
        exact List.lt_irrefl _ q
      · have q2 := up _ h
        rw [e] at q
        exact List.lt_irrefl _ (List.lt_trans q q2)
    have vd : Vc ns d := ⟨u2, fun l hl => ⟨(List.mem_cons.mp (v.2 l (List.mem_cons_of_mem _ hl)).1).resolve_left (tail l hl), (v.2 l (List.mem_cons_of_mem _ hl)).2⟩⟩
    have hx := v.2 x List.mem_cons_self
    rcases List.mem_cons.mp hx.1 with e | h
    · refine .inr ⟨x.2, d, hx.2, ?_, vd, tail⟩
      rw [← e]
    · have nx : x.1 ≠ z := fun e => by
        have q := up _ h
        rw [e] at q
        exact List.lt_irrefl _ q
      refine .inl ⟨⟨v.1, fun l hl => ?_⟩, fun l hl => ?_⟩
      · rcases List.mem_cons.mp hl with rfl | hl
        · exact ⟨h, hx.2⟩
        · exact vd.2 l hl
      · rcases List.mem_cons.mp hl with rfl | hl
        · exact nx
        · exact tail l hl
theorem vc_more {c : Cl} (v : Vc ns c) : Vc (z :: ns) c := ⟨v.1, fun l hl => ⟨List.mem_cons_of_mem _ (v.2 l hl).1, (v.2 l hl).2⟩⟩
theorem vc_cons {k : Int} {d : Cl} (up : ∀ y ∈ ns, z.cps.toList < y.cps.toList) (hk : k = 0 ∨ k = 1) (v : Vc ns d) : Vc (z :: ns) ((z, k) :: d) :=
  ⟨List.pairwise_cons.mpr ⟨fun l hl => up _ (v.2 l hl).1, v.1⟩, fun l hl => by
    rcases List.mem_cons.mp hl with rfl | hl
    · exact ⟨List.mem_cons_self, hk⟩
    · exact (vc_more v).2 l hl⟩
theorem rid_head {k : Int} {d : Cl} (nz : ∀ l ∈ d, l.1 ≠ z) : rid ((z, k) :: d) (z, k) = d := by
  unfold rid
  rw [List.filter_cons_of_neg (by simp)]
  exact List.filter_eq_self.mpr fun l hl => decide_eq_true fun e => nz l hl (by rw [e])
theorem rid_tail {k : Int} {d : Cl} {x : Lit} (nz : ∀ l ∈ d, l.1 ≠ z) (hx : x ∈ d) : rid ((z, k) :: d) x = (z, k) :: rid d x := by
  unfold rid
  rw [List.filter_cons_of_pos (p := fun y => decide (y ≠ x)) (decide_eq_true fun (e : (z, k) = x) => nz x hx (by rw [← e]))]
theorem nz_of {d : Cl} (hz : z ∉ ns) (v : Vc ns d) : ∀ l ∈ d, l.1 ≠ z := fun l hl e => hz (e ▸ (v.2 l hl).1)
theorem nz_rid {d : Cl} {x : Lit} (nz : ∀ l ∈ d, l.1 ≠ z) : ∀ l ∈ rid d x, l.1 ≠ z := fun l hl => nz l (List.mem_filter.mp hl).1
theorem pm_step (hz : z ∉ ns) (up : ∀ y ∈ ns, z.cps.toList < y.cps.toList) {lo hi : Nat} (el : lo = M % 2 ^ 2 ^ ns.length) (eh : hi = M / 2 ^ 2 ^ ns.length) (c : Cl) :
    PrimeM (z :: ns) M c ↔ PrimeM ns (lo &&& hi) c ∨ (∃ d, c = (z, 1) :: d ∧ PrimeM ns lo d ∧ ¬ PrimeM ns (lo &&& hi) d) ∨ (∃ d, c = (z, 0) :: d ∧ PrimeM ns hi d ∧ ¬ PrimeM ns (lo &&& hi) d) := by
  subst el eh
  have both : ∀ {a b : Nat} {d : Cl}, PrimeM ns a d → Imp ns b d → PrimeM ns (a &&& b) d := fun {a b d} p i => ⟨p.1, imp_and.mpr ⟨p.2.1, i⟩, fun x hx q => p.2.2 x hx (imp_and.mp q).1⟩
  have both2 : ∀ {a b : Nat} {d : Cl}, PrimeM ns b d → Imp ns a d → PrimeM ns (a &&& b) d := fun {a b d} p i => ⟨p.1, imp_and.mpr ⟨i, p.2.1⟩, fun x hx q => p.2.2 x hx (imp_and.mp q).2⟩
  constructor
  · intro ⟨v, i, m⟩
    rcases vc_head up v with ⟨v1, nz⟩ | ⟨k, d, hk, rfl, v1, nz⟩
    · refine .inl ⟨v1, imp_and.mpr ((imp_free hz nz).mp i), fun x hx q => m x hx ((imp_free hz (nz_rid nz)).mpr (imp_and.mp q))⟩
    · rcases hk with rfl | rfl
      · refine .inr (.inr ⟨d, rfl, ⟨v1, (imp_zero hz nz).mp i, fun x hx q => m x (List.mem_cons_of_mem _ hx) ?_⟩, fun q => m _ List.mem_cons_self ?_⟩)
        · rw [rid_tail nz hx]
          exact (imp_zero hz (nz_rid nz)).mpr q
        · rw [rid_head nz]
          exact (imp_free hz nz).mpr (imp_and.mp q.2.1)
      · refine .inr (.inl ⟨d, rfl, ⟨v1, (imp_one hz nz).mp i, fun x hx q => m x (List.mem_cons_of_mem _ hx) ?_⟩, fun q => m _ List.mem_cons_self ?_⟩)
        · rw [rid_tail nz hx]
          exact (imp_one hz (nz_rid nz)).mpr q
        · rw [rid_head nz]
          exact (imp_free hz nz).mpr (imp_and.mp q.2.1)
  · rintro (⟨v, i, m⟩ | ⟨d, rfl, p, np⟩ | ⟨d, rfl, p, np⟩)
    · have nz := nz_of hz v
      exact ⟨vc_more v, (imp_free hz nz).mpr (imp_and.mp i), fun x hx q => m x hx (imp_and.mpr ((imp_free hz (nz_rid nz)).mp q))⟩
    · have nz := nz_of hz p.1
      refine ⟨vc_cons up (.inr rfl) p.1, (imp_one hz nz).mpr p.2.1, fun x hx q => ?_⟩
      rcases List.mem_cons.mp hx with rfl | hx
      · rw [rid_head nz] at q
        exact np (both p ((imp_free hz nz).mp q).2)
      · rw [rid_tail nz hx] at q
        exact p.2.2 x hx ((imp_one hz (nz_rid nz)).mp q)
    · have nz := nz_of hz p.1
      refine ⟨vc_cons up (.inl rfl) p.1, (imp_zero hz nz).mpr p.2.1, fun x hx q => ?_⟩
      rcases List.mem_cons.mp hx with rfl | hx
      · rw [rid_head nz] at q
        exact np (both2 p ((imp_free hz nz).mp q).1)
      · rw [rid_tail nz hx] at q
        exact p.2.2 x hx ((imp_zero hz (nz_rid nz)).mp q)
end
/-! ### the order of clauses -/
open PySem.W in
theorem lit_lt (x y : Lit) : dataLt (litD x) (litD y) = if x.1 = y.1 then decide (x.2 < y.2) else decide (x.1.cps.toList < y.1.cps.toList) := by
  unfold litD
  rw [dataLt_pair rfl rfl, dataLt_int, dataLt_str]
  have e1 : PyData.eqv (.str x.1) (.str y.1) = (x.1 == y.1) := rfl
  have e2 : PyData.eqv (.int x.2) (.int y.2) = (x.2 == y.2) := rfl
  rw [e1, e2]
  by_cases h : x.1 = y.1
  · rw [if_pos h, if_pos (beq_iff_eq.mpr h)]
    by_cases g : x.2 = y.2
    · rw [if_pos (beq_iff_eq.mpr g), g]
      simp
    · rw [if_neg (by simpa using g)]
  · rw [if_neg h, if_neg (by simpa using h)]
open PySem.W in
theorem lit_anti {x y : Lit} (h1 : dataLt (litD x) (litD y) = false) (h2 : dataLt (litD y) (litD x) = false) : x = y := by
  rw [lit_lt] at h1 h2
  by_cases h : x.1 = y.1
  · rw [if_pos h] at h1
    rw [if_pos h.symm] at h2
    have a := of_decide_eq_false h1
    have b := of_decide_eq_false h2
    exact Prod.ext h (by omega)
  · rw [if_neg h] at h1
    rw [if_neg fun e => h e.symm] at h2
    have a := List.not_lt.mp (of_decide_eq_false h1)
    have b := List.not_lt.mp (of_decide_eq_false h2)
    exact (h (str_of_cps (List.le_antisymm b a))).elim
open PySem.W in
theorem cl_lt (x y : Lit) (a b : Cl) : rowLt ((x :: a).map litD) ((y :: b).map litD) = if x = y then rowLt (a.map litD) (b.map litD) else dataLt (litD x) (litD y) := by
  show rowLt (litD x :: a.map litD) (litD y :: b.map litD) = _
  unfold rowLt
  rw [dataLt_cons rfl, eqv_lit]
  by_cases h : x = y
  · rw [if_pos (decide_eq_true h), if_pos h]
  · rw [if_neg (by rw [decide_eq_false h]; exact Bool.false_ne_true), if_neg h]
open PySem.W in
theorem nil_lt (y : PyData) (b : List PyData) : rowLt [] (y :: b) = true := by
  unfold rowLt
  rw [toks_all_cons]
  simp only [keyToksAll]
  rw [lex_diff (O := itemOrd) (by simp)]
  rfl
open PySem.W in
theorem cls_anti : ∀ {a b : Cl}, rowLt (a.map litD) (b.map litD) = false → rowLt (b.map litD) (a.map litD) = false → a = b
  | [], [], _, _ => rfl
  | [], y :: b, h, _ => by
    rw [List.map_nil, List.map_cons, nil_lt] at h
    cases h
  | x :: a, [], _, h => by
    rw [List.map_nil, List.map_cons, nil_lt] at h
    cases h
  | x :: a, y :: b, h1, h2 => by
    rw [cl_lt] at h1 h2
    by_cases e : x = y
    · rw [if_pos e] at h1
      rw [if_pos e.symm] at h2
      rw [e, cls_anti h1 h2]
    · rw [if_neg e] at h1
      rw [if_neg fun z => e z.symm] at h2
      exact (e (lit_anti h1 h2)).elim
def cle (a b : Cl) : Bool := So.dle (clD a) (clD b)
theorem cle_eq (a b : Cl) : cle a b = !PySem.W.rowLt (b.map litD) (a.map litD) := by
  show (!PySem.W.dataLt (.tuple (b.map litD)) (.tuple (a.map litD))) = _
  rw [PySem.W.dataLt_tuple]
  rfl
theorem cle_total : PySem.W.TotalLe cle := by
  have e : cle = PySem.W.dataLe false clD := rfl
  rw [e]
  unfold PySem.W.dataLe
  exact PySem.W.sortLe_total _ _ _
theorem cle_anti {a b : Cl} (h1 : cle a b = true) (h2 : cle b a = true) : a = b := by
  rw [cle_eq] at h1 h2
  exact cls_anti (by simpa using h2) (by simpa using h1)
theorem cls_sort (L : List Cl) : (L.map clD).mergeSort So.dle = (L.mergeSort cle).map clD := (PySem.W.sort_maps (r := cle) (s := So.dle) clD fun a _ b _ => rfl).symm
theorem same_sorts {l m : List Cl} (nl : l.Nodup) (nm : m.Nodup) (h : ∀ x, x ∈ l ↔ x ∈ m) : l.mergeSort cle = m.mergeSort cle :=
  List.Perm.eq_of_pairwise (fun _ _ _ _ x y => cle_anti x y) (PySem.W.sort_pairwise cle_total l) (PySem.W.sort_pairwise cle_total m) ((List.mergeSort_perm l cle).trans (((List.perm_ext_iff_of_nodup nl nm).mpr h).trans (List.mergeSort_perm m cle).symm))
theorem sorted_is {l m : List Cl} (h : l.Perm m) (hm : m.Pairwise fun a b => cle a b = true) : l.mergeSort cle = m :=
  List.Perm.eq_of_pairwise (fun _ _ _ _ x y => cle_anti x y) (PySem.W.sort_pairwise cle_total l) hm ((List.mergeSort_perm l cle).trans h)
/-! ### clauses sorted -/
def lle (x y : Lit) : Bool := So.dle (litD x) (litD y)
theorem lits_sort (c : Cl) : (c.map litD).mergeSort So.dle = (c.mergeSort lle).map litD := (PySem.W.sort_maps (r := lle) (s := So.dle) litD fun a _ b _ => rfl).symm
theorem lle_total : PySem.W.TotalLe lle := by
  have e : lle = PySem.W.dataLe false litD := rfl
  rw [e]
  unfold PySem.W.dataLe
  exact PySem.W.sortLe_total _ _ _
theorem srt_up {c : Cl} (nd : (c.map (·.1)).Nodup) : Up (c.mergeSort lle) := by
  have pm := List.mergeSort_perm c lle
  refine up_of ?_ ((pm.map (·.1)).nodup_iff.mpr nd)
  exact List.pairwise_map.mpr (PySem.W.sort_pairwise lle_total c)
theorem srt_mem (c : Cl) (l : Lit) : l ∈ c.mergeSort lle ↔ l ∈ c := (List.mergeSort_perm c lle).mem_iff
theorem bitOr_nat (x y : Nat) : Builtin.bitOr (x : Int) (y : Int) = ((x ||| y : Nat) : Int) := by
  have bn : ∀ n : Nat, Builtin.bitNot ((n : Nat) : Int) = -((n : Nat) : Int) - 1 := fun n => rfl
  unfold Builtin.bitOr Builtin.bitAnd
  have hx : decide (0 ≤ Builtin.bitNot (x : Int)) = false := decide_eq_false (by rw [bn]; omega)
  have hy : decide (0 ≤ Builtin.bitNot (y : Int)) = false := decide_eq_false (by rw [bn]; omega)
  rw [hx, hy]
  have nn : ∀ n : Nat, (Builtin.bitNot (Builtin.bitNot ((n : Nat) : Int))) = (n : Int) := fun n => by
    show -(-((n : Nat) : Int) - 1) - 1 = _
    omega
  show Builtin.bitNot (Builtin.bitNot (((Builtin.bitNot (Builtin.bitNot (x : Int))).toNat ||| (Builtin.bitNot (Builtin.bitNot (y : Int))).toNat : Nat) : Int)) = _
  rw [nn, nn, nn]
  rfl
theorem bitAnd_nat (x y : Nat) : Builtin.bitAnd (x : Int) (y : Int) = ((x &&& y : Nat) : Int) := by
  unfold Builtin.bitAnd
  rw [decide_eq_true (Int.natCast_nonneg x), decide_eq_true (Int.natCast_nonneg y)]
  rfl
end K10
namespace K10
local macro_rules | `(tactic| walk_at "rd") => `(tactic| repeat (first | refine ⟨rfl, ?_⟩ | refine ⟨_, rfl, ?_⟩ | refine ⟨_, _, rfl, rfl, ?_⟩ | refine ⟨⟨_, rfl⟩, ?_⟩))
open PySem PySem.Spec PyProof.Rows L2 Bx TL Dx Zx Ow Sup NdefX Px
theorem any_cl (cs : List Cl) (c : Cl) : ((cs.map clD).any fun z => PyData.eqv z (clD c)) = decide (c ∈ cs) := by
  rw [List.any_map, Bool.eq_iff_iff, List.any_eq_true, decide_eq_true_iff]
  refine ⟨fun ⟨x, h1, h2⟩ => ?_, fun h => ⟨c, h, ?_⟩⟩
  · have z : PyData.eqv (clD x) (clD c) = true := h2
    rw [eqv_cl, decide_eq_true_iff] at z
    rw [← z]
    exact h1
  · show PyData.eqv (clD c) (clD c) = true
    rw [eqv_cl, decide_eq_true_iff]
theorem lay_cls {cs : List Cl} (h : ∀ c ∈ cs, OkC c) : Lays 2 (cs.map clD) := lays_of fun d hd => by
  obtain ⟨c, hc, rfl⟩ := List.mem_map.mp hd
  exact ⟨lay_lits (h c hc), dep_cl c⟩
theorem sh_clsL {cs : List Cl} (h : ∀ c ∈ cs, OkC c) : SeqAt.shaped (.list (cs.map clD)) = true := shape (lay_list (lay_cls h)) (by decide)
theorem sh_clsT {cs : List Cl} (h : ∀ c ∈ cs, OkC c) : SeqAt.shaped (.tuple (cs.map clD)) = true := shape (lay_tuple (lay_cls h)) (by decide)
theorem cl_dp {K : PySem.W.Frag} {H : Hp} {v : V} {c : Cl} (h : Dp K H v (clD c)) : ∃ p xs, v = .ref p ∧ SqT K H p xs ∧ DpAll K H xs (c.map litD) := dp_tup h
theorem cast_pow (n : Nat) : ((2 : Int) ^ n) = ((2 ^ n : Nat) : Int) := by rw [Int.natCast_pow]; rfl
theorem ok_vc {ns : List Str} (ok : ∀ z ∈ ns, PyData.strOk z = true) {c : Cl} (v : Vc ns c) : OkC c := fun l hl => ok _ (v.2 l hl).1
theorem two_small {n : Nat} (h : n ≤ 5) : 2 ^ n ≤ 32 := Nat.pow_le_pow_right (n := 2) (by decide) h
section
variable {P : Program} {w : World} {K : PySem.W.Frag} {mg : Str → Option Value} {base : Heap}
@[irreducible] def spEv (K : PySem.W.Frag) : Sp := fun vs H Q _ => ∃ (a : Addr) (ns : List Str), vs = [.ref a] ∧ SqT K H a (ns.map V.str) ∧ ns.length ≤ 5 ∧ Q (.int ((full ns - 1 : Nat) : Int)) H
theorem ok_everything {f : Addr} {fd : FuncData} (F : Fun K "everything" "everything" s_everything f fd) (m_len : mg "len" = none) : FnOk P w K mg base CX0 1 f fd ["names"] (spEv K) := by
  refine F.ok sc_everything (fun vs H Q E h => ?_) (fun cdv A outer s H vs Q E hr h => ?_)
  · unfold spEv at h
    obtain ⟨a, ns, rfl, _⟩ := h
    rfl
  · unfold spEv at h
    obtain ⟨a, ns, rfl, ha, hl, q⟩ := h
    refine ⟨_, (pss_one (ps_ret (pe_op op_sub (pe_op op_oneShl pe_int (pe_op op_oneShl pe_int (pe_callB call_len_seq (by rfl) m_len PySem.boot_len (pa_cons (pv 0) pa_nil)))) pe_int))), ?_⟩
    walk_at "rd"
    refine ⟨_, _, rfl, .inr ha, ?_⟩
    rw [List.length_map]
    refine ⟨ns.length, rfl, rfl, by omega, ?_⟩
    have z : 2 ^ ns.length ≤ 2 ^ 5 := Nat.pow_le_pow_right (by decide) hl
    refine ⟨2 ^ ns.length, rfl, by rw [cast_pow], by omega, ?_⟩
    walk_at "rd"
    have e : ((2 : Int) ^ 2 ^ ns.length) - 1 = ((full ns - 1 : Nat) : Int) := by
      rw [cast_pow]
      have p : 0 < full ns := Nat.pow_pos (by decide)
      show ((full ns : Nat) : Int) - 1 = _
      omega
    show Q (V.int ((2 : Int) ^ 2 ^ ns.length - 1)) H
    rw [e]
    exact q
@[irreducible] def spHalf (K : PySem.W.Frag) : Sp := fun vs H Q _ => ∃ (a : Addr) (z : Str) (ns : List Str), vs = [.ref a] ∧ SqT K H a ((z :: ns).map V.str) ∧ ns.length ≤ 5 ∧ Q (.int ((2 ^ ns.length : Nat) : Int)) H
theorem ok_half {f : Addr} {fd : FuncData} (F : Fun K "_half" "_half" s__half f fd) (m_len : mg "len" = none) : FnOk P w K mg base CX0 1 f fd ["names"] (spHalf K) := by
  refine F.ok sc__half (fun vs H Q E h => ?_) (fun cdv A outer s H vs Q E hr h => ?_)
  · unfold spHalf at h
    obtain ⟨a, z, ns, rfl, _⟩ := h
    rfl
  · unfold spHalf at h
    obtain ⟨a, z, ns, rfl, ha, hl, q⟩ := h
    refine ⟨_, (pss_one (ps_ret (pe_op op_oneShl pe_int (pe_op op_sub (pe_callB call_len_seq (by rfl) m_len PySem.boot_len (pa_cons (pv 0) pa_nil)) pe_int)))), ?_⟩
    walk_at "rd"
    refine ⟨_, _, rfl, .inr ha, ?_⟩
    rw [List.length_map]
    walk_at "rd"
    refine ⟨ns.length, rfl, ?_, by omega, ?_⟩
    · show V.int (((ns.length + 1 : Nat) : Int) - 1) = _
      congr 1
      omega
    rw [cast_pow]
    exact q
@[irreducible] def spWD (K : PySem.W.Frag) : Sp := fun vs H Q _ => ∃ (p : Addr) (xs : List V) (cs : List Cl) (z : Str) (v : Int), vs = [.ref p, .str z, .int v] ∧ SqL K H p xs ∧ DpAll K H xs (cs.map clD) ∧ (∀ c ∈ cs, OkC c ∧ c.length ≤ 1000) ∧ PyData.strOk z = true ∧ cs.length ≤ 1000 ∧
  ∀ (r : Addr) (us : List V) (H' : Hp), Same H H' → H r = none → H' r = some (.lst us) → DpAll K H' us ((wd cs z v).map clD) → Q (.ref r) H'
set_option maxHeartbeats 1000000 in
theorem ok_when {f : Addr} {fd : FuncData} (F : Fun K "when_decided" "when_decided" s_when_decided f fd) (m_tuple : mg "tuple" = none) : FnOk P w K mg base CX0 1 f fd ["clauses", "name", "value"] (spWD K) := by
  refine F.ok sc_when_decided (fun vs H Q E h => ?_) (fun cdv A outer s H vs Q E hr h => ?_)
  · unfold spWD at h
    obtain ⟨p, xs, cs, z, v, rfl, _⟩ := h
    rfl
  · unfold spWD at h
    obtain ⟨p, xs, cs, z, v, rfl, hp, hd, ok, okz, hl, q⟩ := h
    have xl : xs.length = cs.length := by rw [da_len hd, List.length_map]
    refine ⟨_, (pss_cons (ps_setLc (i := 3) (own := [("clause", 4)]) rfl sc_when_decided.nd rfl rfl (sw_true rfl rfl rfl (by decide +kernel)) (pi_list (pv 0)) (blkOk_by (N := n_when_decided) (sc := defScope s_when_decided) (by decide +kernel)) (fun _ _ _ _ _ => pg_name (i := 4) sc_when_decided.nd rfl (Or.inl rfl)) (fun _ _ _ _ _ => pts_one (pt_cmpR (Sl.op_notInT (K := K) rfl (room hr)) (pe_tup (pa_cons (pv 1) (pa_cons (pv 2) pa_nil))) (pv 4) (by rfl))) (fun _ _ _ _ _ => (pv 4)))
    (pss_one (ps_ret (pe_lc (own := [("clause", 4)]) (tt := tYes) rfl sc_when_decided.nd (pi_list (pv 3)) (blkOk_by (N := n_when_decided) (sc := defScope s_when_decided) (by decide +kernel)) (fun _ _ _ _ _ => pg_name (i := 4) sc_when_decided.nd rfl (Or.inl rfl)) (fun _ _ _ _ _ => pts_nil) (fun _ _ _ _ _ => (pe_callTy (T := "tuple") (call_tuple_ofK (K := K) rfl) (by rfl) m_tuple (by decide +kernel) (pa_cons (pe_lc (own := [("literal", 5)]) (wi := iTup K (tVar 4)) rfl sc_when_decided.nd (pi_tup (pv 4)) (Nx.blkOk_nest (N := n_when_decided) (sc := defScope s_when_decided) rfl (by decide +kernel)) (fun _ _ _ _ _ => pg_name (i := 5) sc_when_decided.nd rfl (Or.inl rfl)) (fun _ _ _ _ _ => pts_one (pt_cmpR op_ne (pe_ix (ix_tupK (K := K) rfl) (pv 5) pe_int (fun _ _ => rfl)) (pv 1) (nomark _))) (fun _ _ _ _ _ => (pv 5))) pa_nil))))))), ?_⟩
    walk_at "rd"
    refine ⟨⟨_, hp⟩, fun D hD => ?_⟩
    refine lc_it walk_list (fun i H' => Same H H' ∧ ∃ us, H' D = some (.lst us) ∧ DpAll K H us (((cs.take i).filter fun c => !decide ((z, v) ∈ c)).map clD)) ⟨same_new hD, [], upd_same, .nil⟩ (fun i H' _ h => h.1.seq hp) ?_ ?_
    · rintro i x H2a H2 hi ⟨s2, us, hM, hda⟩ ⟨rfl, hx⟩
      obtain ⟨c, hc, dc⟩ := da_atM hd hx
      obtain ⟨cq, ys, rfl, hcq, dcl⟩ := cl_dp dc
      have okc := ok c (List.mem_of_getElem? hc)
      refine ⟨rfl, ?_⟩
      walk_at "rd"
      refine ⟨sz (by show 2 ≤ 100000; decide), fun T nT => ?_⟩
      have s3 := same_new nT (o := .tup [V.str z, .int v])
      have hT := upd_same (H := H2) (a := T) (o := .tup [V.str z, .int v])
      generalize upd H2 T (.tup [V.str z, .int v]) = H3 at s3 hT ⊢
      have s03 := s2.trans s3
      walk_at "rd"
      refine ⟨litD (z, v), c.map litD, dp_lit (l := (z, v)) (sqt hT), dp_same s03 dc, sh_lit okz, sh_cl okc.1, ?_⟩
      rw [any_lit]
      refine ⟨_, rfl, ?_⟩
      have ef : ((cs.take (i + 1)).filter fun c => !decide ((z, v) ∈ c)) = ((cs.take i).filter fun c => !decide ((z, v) ∈ c)) ++ if (!decide ((z, v) ∈ c)) = true then [c] else [] := by
        rw [List.take_add_one, hc, List.filter_append]
        congr 1
        by_cases m : (z, v) ∈ c <;> simp [m]
      have ul : us.length ≤ 1000 := by
        rw [da_len hda, List.length_map]
        exact Nat.le_trans (List.length_filter_le _ _) (Nat.le_trans (List.length_take_le' i cs) hl)
      rw [ef]
      refine ite2 (fun m => ?_) (fun m => ?_)
      · rw [if_pos m]
        walk_at "rd"
        refine ⟨us, s3 _ _ hM, szl (by omega), same_at hD s03, us ++ [.ref cq], upd_same, ?_⟩
        rw [List.map_append]
        exact da_app hda (da_one dc)
      · rw [if_neg m, List.append_nil]
        exact ⟨s03, us, s3 _ _ hM, hda⟩
    rintro H2 ⟨s2, us, hM, hda⟩
    rw [xl, List.take_length] at hda
    have ok2 : ∀ c ∈ (cs.filter fun c => !decide ((z, v) ∈ c)), c.length ≤ 1000 := fun c hc => (ok c (List.mem_filter.mp hc).1).2
    have l2 : (cs.filter fun c => !decide ((z, v) ∈ c)).length ≤ 1000 := Nat.le_trans (List.length_filter_le _ _) hl
    have ew : wd cs z v = (cs.filter fun c => !decide ((z, v) ∈ c)).map fun c => c.filter fun l => decide (l.1 ≠ z) := rfl
    rw [ew] at q
    have hda2 := dpAll_same s2 hda
    generalize (cs.filter fun c => !decide ((z, v) ∈ c)) = fs at q hda2 ok2 l2
    have ul : us.length = fs.length := by rw [da_len hda2, List.length_map]
    walk_at "rd"
    refine ⟨⟨_, sq hM⟩, fun D2 hD2 => ?_⟩
    refine lc_it walk_list (fun i H' => Same H2 H' ∧ ∃ vs, H' D2 = some (.lst vs) ∧ DpAll K (mn H' [D2]) vs (((fs.take i).map fun c => c.filter fun l => decide (l.1 ≠ z)).map clD)) ⟨same_new hD2, [], upd_same, .nil⟩ (fun i H' _ h => sq (h.1 _ _ hM)) ?_ ?_
    · rintro i x H3a H3 hi ⟨s3, vs, hV, hdv⟩ ⟨rfl, hx⟩
      obtain ⟨c, hc, dc⟩ := da_atM hda2 hx
      obtain ⟨cq, ys, rfl, hcq, dcl⟩ := cl_dp dc
      have yl : ys.length = c.length := by rw [da_len dcl, List.length_map]
      have c3 := Bx.Same.tup s3 hcq
      have d3 := dpAll_same s3 dcl
      have lc := ok2 c (List.mem_of_getElem? hc)
      refine ⟨rfl, ?_⟩
      walk_at "rd"
      refine ⟨⟨_, c3⟩, fun D3 hD3 => ?_⟩
      refine lc_it walk_tup (fun j H' => Same H3 H' ∧ ∃ ws, H' D3 = some (.lst ws) ∧ DpAll K H3 ws (((c.take j).filter fun l => decide (l.1 ≠ z)).map litD)) ⟨same_new hD3, [], upd_same, .nil⟩ (fun j H' _ h => Bx.Same.tup h.1 c3) ?_ ?_
      · rintro j x H4a H4 hj ⟨s4, ws, hW, hdw⟩ ⟨rfl, hx2⟩
        obtain ⟨l, hl0, dl⟩ := da_atM d3 hx2
        obtain ⟨lq, rfl, hlq⟩ := lit_dp dl
        refine ⟨rfl, ?_⟩
        walk_at "rd"
        refine ⟨_, _, _, _, rfl, rfl, Bx.Same.tup s4 hlq, atI_nat (j := 0) rfl, ?_⟩
        walk_at "rd"
        have wl : ws.length ≤ 1000 := by
          rw [da_len hdw, List.length_map]
          exact Nat.le_trans (List.length_filter_le _ _) (Nat.le_trans (List.length_take_le' j c) lc)
        have eg : ((c.take (j + 1)).filter fun l => decide (l.1 ≠ z)) = ((c.take j).filter fun l => decide (l.1 ≠ z)) ++ if l.1 = z then [] else [l] := by
          rw [List.take_add_one, hl0, List.filter_append]
          congr 1
          by_cases m : l.1 = z <;> simp [m]
        rw [eg]
        refine ite2 (fun m => ?_) (fun m => ?_)
        · have ne : l.1 ≠ z := fun e => ne_t m (congrArg V.str e)
          rw [if_neg ne]
          walk_at "rd"
          refine ⟨ws, hW, szl (by omega), same_at hD3 s4, ws ++ [.ref lq], upd_same, ?_⟩
          rw [List.map_append]
          exact da_app hdw (da_one (dp_lit hlq))
        · have e : l.1 = z := V.str.inj (ne_f m)
          rw [if_pos e, List.append_nil]
          exact ⟨s4, ws, hW, hdw⟩
      rintro H4 ⟨s4, ws, hW, hdw⟩
      rw [yl, List.take_length] at hdw
      refine ⟨D3, _, rfl, .inl ⟨sq hW, fun N nN => ?_⟩⟩
      have s5 := same_new nN (o := .tup ws)
      have hN := upd_same (H := H4) (a := N) (o := .tup ws)
      generalize upd H4 N (.tup ws) = H5 at s5 hN ⊢
      have s35 := s4.trans s5
      have hV5 := s35 _ _ hV
      have ND : N ≠ D2 := fun e => by
        rw [e, s4 _ _ hV] at nN
        cases nN
      have vl : vs.length ≤ 1000 := by
        rw [da_len hdv, List.length_map, List.length_map]
        have := List.length_take_le' i fs
        omega
      refine ⟨vs, hV5, szl (by omega), same_at hD2 (s3.trans s35), vs ++ [.ref N], upd_same, ?_⟩
      rw [mn_upd (by simp), List.take_add_one, hc, List.map_append, List.map_append]
      refine da_app (dpAll_same (mn_all s35) hdv) (da_one ?_)
      show Dp K (mn H5 [D2]) (.ref N) (clD (c.filter fun l => decide (l.1 ≠ z)))
      have mk : ∀ {x : V} {d : PyData}, tupD d = true → Dp K H3 x d → Dp K (mn H5 [D2]) x d := fun {x d} td h => by
        have tk : Tk K H3 (mn H5 [D2]) := fun a xs h => by
          rcases Bx.Same.tup s35 h with (h | ⟨o, h⟩) | h
          · exact .inl (.inl (mn_at (by intro e; rw [List.mem_singleton.mp e, hV5] at h; cases h) h))
          · exact .inl (.inr ⟨o, mn_at (by intro e; rw [List.mem_singleton.mp e, hV5] at h; cases h) h⟩)
          · exact .inr h
        exact dp_tk tk d x td h
      have tk : Tk K H3 (mn H5 [D2]) := fun a xs h => by
        rcases Bx.Same.tup s35 h with (h | ⟨o, h⟩) | h
        · exact .inl (.inl (mn_at (by intro e; rw [List.mem_singleton.mp e, hV5] at h; cases h) h))
        · exact .inl (.inr ⟨o, mn_at (by intro e; rw [List.mem_singleton.mp e, hV5] at h; cases h) h⟩)
        · exact .inr h
      exact .tup (sqt (mn_at (by simp [ND]) hN)) (da_tk tk _ _ (tup_lits _) hdw)
    rintro H3 ⟨s3, vs, hV, hdv⟩
    rw [ul, List.take_length] at hdv
    exact q D2 vs H3 (s2.trans s3) (s2.free hD2) hV (dpAll_same mn_same hdv)
/-- the mask of what fails -/
def spFail (K : PySem.W.Frag) : Nat → Sp
  | 0 => fun _ _ _ _ => False
  | k + 1 => fun vs H Q _ => ∃ (a p : Addr) (ns : List Str) (xs : List V) (cs : List Cl), vs = [.ref a, .ref p] ∧ SqT K H a (ns.map V.str) ∧ ns.length ≤ k ∧ ns.length ≤ 5 ∧ (∀ z ∈ ns, PyData.strOk z = true) ∧ SqL K H p xs ∧ DpAll K H xs (cs.map clD) ∧ (∀ c ∈ cs, Vc ns c) ∧ cs.length ≤ 1000 ∧
    ∀ (M : Nat) (H' : Hp), Same H H' → FM ns cs M → Q (.int ((M : Nat) : Int)) H'
set_option maxHeartbeats 1000000 in
theorem ok_failing {f : Addr} {fd : FuncData} (F : Fun K "failing" "failing" s_failing f fd) (C_everything : Cal P w K mg base "everything" 1 ["names"] (spEv K)) (C__half : Cal P w K mg base "_half" 1 ["names"] (spHalf K)) (C_when_decided : Cal P w K mg base "when_decided" 1 ["clauses", "name", "value"] (spWD K))
    (gS : mg "failing" = some (.ref f)) (kS : PySem.W.keepIn K (.ref f) = true) (bS : Binds K fd ["names", "clauses"] []) : ∀ k : Nat, FnOk P w K mg base CX0 (k + 1) f fd ["names", "clauses"] (spFail K k)
  | 0 => F.ok sc_failing (fun vs H Q E h => h.elim) (fun cdv A outer s H vs Q E hr h => h.elim)
  | k + 1 => by
    have C_failing : Cal P w K mg base "failing" (k + 1) ["names", "clauses"] (spFail K k) := ⟨_, _, ok_failing F C_everything C__half C_when_decided gS kS bS k, gS, kS, bS⟩
    refine F.ok sc_failing (fun vs H Q E h => ?_) (fun cdv A outer s H vs Q E hr h => ?_)
    · obtain ⟨a, p, ns, xs, cs, rfl, _⟩ := h
      rfl
    · obtain ⟨a, p, ns, xs, cs, rfl, ha, lk, l5, okn, hp, hd, vc, hl, q⟩ := h
      have okc : ∀ c ∈ cs, OkC c := fun c hc => ok_vc okn (vc c hc)
      refine ⟨_, (pss_cons (ps_if (pt_cmpR (op_inD (room hr)) (pe_tup pa_nil) (pv 1) (by rfl))
      (pss_one (ps_ret (pe_cal C_everything (hr.mono (by omega)) (pa_cons (pv 0) pa_nil))))
      pss_nil)
    (pss_cons (ps_if (pt_cmpR (op_eqD hr.units) (pv 1) (pe_lst pa_nil) (nomark _))
      (pss_one (ps_ret pe_int))
      pss_nil)
    (pss_cons (ps_set (i := 2) sc_failing.nd rfl (Or.inl rfl) (pe_cal C_failing (hr.mono (by omega)) (pa_cons (pe_slice sl_tupA (pv 0) (po_some pe_int) po_none) (pa_cons (pe_cal C_when_decided (hr.mono (by omega)) (pa_cons (pv 1) (pa_cons (pe_ix ix_tup (pv 0) pe_int (fun _ _ => rfl)) (pa_cons pe_int pa_nil)))) pa_nil))))
    (pss_cons (ps_set (i := 3) sc_failing.nd rfl (Or.inl rfl) (pe_cal C_failing (hr.mono (by omega)) (pa_cons (pe_slice sl_tupA (pv 0) (po_some pe_int) po_none) (pa_cons (pe_cal C_when_decided (hr.mono (by omega)) (pa_cons (pv 1) (pa_cons (pe_ix ix_tup (pv 0) pe_int (fun _ _ => rfl)) (pa_cons pe_int pa_nil)))) pa_nil))))
    (pss_one (ps_ret (pe_op op_or (pv 2) (pe_op op_shlN (pv 3) (pe_cal C__half (hr.mono (by omega)) (pa_cons (pv 0) pa_nil)))))))))), ?_⟩
      walk_at "rd"
      refine ⟨sz (by decide), fun T nT => ?_⟩
      have s1 := same_new nT (o := .tup ([] : List V))
      have hT := upd_same (H := H) (a := T) (o := .tup ([] : List V))
      generalize upd H T (.tup []) = H1 at s1 hT ⊢
      walk_at "rd"
      refine ⟨clD [], cs.map clD, .tup (sqt hT) .nil, .lst (s1.seq hp) (dpAll_same s1 hd), sh_cl (fun l hl => nomatch hl), sh_clsL okc, ?_⟩
      rw [any_cl]
      walk_at "rd"
      refine ite2 (fun m => ?_) (fun m => ?_)
      · walk_at "rd"
        show spEv K _ _ _ _
        unfold spEv
        exact ⟨a, ns, rfl, Bx.Same.tup s1 ha, l5, q _ H1 s1 (fm_all (of_decide_eq_true m))⟩
      have nm : ([] : Cl) ∉ cs := fun h => m (decide_eq_true h)
      walk_at "rd"
      refine ⟨sz (by decide), fun E0 nE0 => ?_⟩
      have s2 := same_new nE0 (o := .lst ([] : List V))
      have hE := upd_same (H := H1) (a := E0) (o := .lst ([] : List V))
      generalize upd H1 E0 (.lst []) = H2 at s2 hE ⊢
      have s02 := s1.trans s2
      refine ⟨.list (cs.map clD), .list [], .lst (s02.seq hp) (dpAll_same s02 hd), .lst (sq hE) .nil, sh_clsL okc, shape (n := 1) (lay_list lays_nil) (by decide), ?_⟩
      have ee : PyData.eqv (.list (cs.map clD)) (.list []) = decide (cs = []) := by
        cases cs with
        | nil => rfl
        | cons c cs => rfl
      rw [ee]
      walk_at "rd"
      refine ite2 (fun m2 => ?_) (fun m2 => ?_)
      · walk_at "rd"
        have e0 : cs = [] := of_decide_eq_true m2
        subst e0
        exact q 0 H2 s02 fm_none
      have ne : cs ≠ [] := fun h => m2 (decide_eq_true h)
      cases ns with
      | nil =>
        exfalso
        cases cs with
        | nil => exact ne rfl
        | cons c cs =>
          have v := vc c List.mem_cons_self
          cases c with
          | nil => exact nm List.mem_cons_self
          | cons x c => exact nomatch (v.2 x List.mem_cons_self).1
      | cons z ns =>
        obtain ⟨k', rfl⟩ : ∃ k', k = k' + 1 := ⟨k - 1, by
          have := lk
          simp only [List.length_cons] at this
          omega⟩
        simp only [List.length_cons] at lk l5
        have okz := okn z List.mem_cons_self
        have okn' : ∀ y ∈ ns, PyData.strOk y = true := fun y hy => okn y (List.mem_cons_of_mem _ hy)
        have okl : ∀ c ∈ cs, OkC c ∧ c.length ≤ 1000 := fun c hc => ⟨okc c hc, by
          have := vc_len (vc c hc)
          simp only [List.length_cons] at this
          omega⟩
        walk_at "rd"
        unfold tNoPart
        refine slice_any (Bx.Same.tup s02 ha) fun c1 H3 s3 h3 => ?_
        rw [show ((1 : Int)) = ((1 : Nat) : Int) from rfl, cut_suf] at h3
        have s03 := s02.trans s3
        walk_at "rd"
        refine ⟨_, _, _, _, rfl, rfl, Bx.Same.tup s03 ha, atI_nat (j := 0) rfl, ?_⟩
        walk_at "rd"
        show spWD K _ _ _ _
        unfold spWD
        refine ⟨p, xs, cs, z, 0, rfl, s03.seq hp, dpAll_same s03 hd, okl, okz, hl, fun w0 us0 H4 s4 nw0 hw0 dw0 => ?_⟩
        have s04 := s03.trans s4
        refine ⟨c1, w0, ns, us0, wd cs z 0, rfl, Bx.Same.tup s4 h3, by omega, by omega, okn', sq hw0, dw0, vc_wd vc, Nat.le_trans (wd_len _ _ _) hl, fun lo H5 s5 fm0 => ?_⟩
        have s05 := s04.trans s5
        walk_at "rd"
        dsimp only
        refine slice_any (Bx.Same.tup s05 ha) fun c2 H6 s6 h6 => ?_
        rw [show ((1 : Int)) = ((1 : Nat) : Int) from rfl, cut_suf] at h6
        have s06 := s05.trans s6
        walk_at "rd"
        refine ⟨_, _, _, _, rfl, rfl, Bx.Same.tup s06 ha, atI_nat (j := 0) rfl, ?_⟩
        walk_at "rd"
        refine ⟨p, xs, cs, z, 1, rfl, s06.seq hp, dpAll_same s06 hd, okl, okz, hl, fun w1 us1 H7 s7 nw1 hw1 dw1 => ?_⟩
        have s07 := s06.trans s7
        refine ⟨c2, w1, ns, us1, wd cs z 1, rfl, Bx.Same.tup s7 h6, by omega, by omega, okn', sq hw1, dw1, vc_wd vc, Nat.le_trans (wd_len _ _ _) hl, fun hi H8 s8 fm1 => ?_⟩
        have s08 := s07.trans s8
        walk_at "rd"
        show spHalf K _ _ _ _
        unfold spHalf
        refine ⟨a, z, ns, rfl, Bx.Same.tup s08 ha, by omega, ?_⟩
        have b1 : hi < 2 ^ 2 ^ ns.length := fm1.1
        refine ⟨(hi : Int), 2 ^ ns.length, rfl, rfl, shl_ok (n := 2 ^ ns.length) b1 (by have := two_small (n := ns.length) (by omega); omega), ⟨_, _, rfl, rfl, ?_⟩⟩
        show Q (V.int (Builtin.bitOr (lo : Int) ((hi : Int) * 2 ^ 2 ^ ns.length))) H8
        rw [cast_pow, ← Int.natCast_mul, bitOr_nat]
        exact q _ H8 s08 (fm_step fm0 fm1)
end
end K10
namespace K10
local macro_rules | `(tactic| walk_at "rd") => `(tactic| repeat (first | refine ⟨rfl, ?_⟩ | refine ⟨_, rfl, ?_⟩ | refine ⟨_, _, rfl, rfl, ?_⟩ | refine ⟨⟨_, rfl⟩, ?_⟩))
open PySem PySem.Spec PyProof.Rows L2 Bx TL Dx Zx Ow Sup NdefX Px
theorem plain_lits : ∀ c : Cl, Sd.plains (c.map litD) = true
  | [] => rfl
  | l :: c => by
    show (Sd.plain (litD l) && Sd.plains (c.map litD)) = true
    rw [plain_lits c]
    rfl
theorem nk_lits : ∀ c : Cl, NestedKey.depthAll (Sd.nks (c.map litD)) ≤ 1
  | [] => Nat.zero_le _
  | l :: c => by
    have ih := nk_lits c
    show max (Sd.nk (litD l)).depth (NestedKey.depthAll (Sd.nks (c.map litD))) ≤ 1
    have e : (Sd.nk (litD l)).depth = 1 := rfl
    omega
theorem k8_cl (c : Cl) : Sd.K8 (clD c) := by
  have z1 := nk_lits c
  have z2 := dep_cl c
  refine ⟨⟨_, rfl⟩, plain_lits c, ?_, by omega⟩
  show NestedKey.depthAll (Sd.nks (c.map litD)) + 1 ≤ 8
  omega
theorem cl_inj {c d : Cl} (h : clD c = clD d) : c = d := by
  have a := eqv_cl c d
  rw [h, eqv_cl] at a
  rw [decide_eq_true (rfl : d = d)] at a
  exact of_decide_eq_true a.symm
theorem nk_cl {c d : Cl} (h : Sd.nk (clD c) = Sd.nk (clD d)) : c = d := cl_inj (Sd.nk_inj _ _ (plain_lits c) (plain_lits d) h)
section
variable {P : Program} {w : World} {K : PySem.W.Frag} {H : Hp} {D : Addr} {cs : List Cl}
theorem tk_dn {kvs : List Dn.En} {o : HO} (hp : H D = some (Dn.DN P w D kvs)) : Tk K H (upd H D o) := fun a xs h => by
  rcases h with (h | ⟨u, h⟩) | h
  · exact .inl (.inl (by rw [upd_ne fun z => by rw [z, hp] at h; exact nomatch (Option.some.inj h)]; exact h))
  · exact .inl (.inr ⟨u, by rw [upd_ne fun z => by rw [z, hp] at h; exact nomatch (Option.some.inj h)]; exact h⟩)
  · exact .inr h
/-- a dict whose keys are these clauses -/
def Bo (P : Program) (w : World) (K : PySem.W.Frag) (H : Hp) (D : Addr) (cs : List Cl) : Prop := ∃ kvs : List Dn.En, H D = some (Dn.DN P w D kvs) ∧ Dn.KeysAt K H kvs ∧ (kvs.map fun p => p.2.1) = cs.map clD
theorem bo_same {H' : Hp} (s : Same H H') : Bo P w K H D cs → Bo P w K H' D cs := fun ⟨kvs, h, k, e⟩ => ⟨kvs, s _ _ h, ⟨dpAll_same s k.1, k.2⟩, e⟩
theorem bo_nil : Bo P w K (upd H D (Dn.DN P w D [])) D [] := ⟨[], upd_same, ⟨.nil, fun p hp => nomatch hp⟩, rfl⟩
theorem bo_val {kvs : List Dn.En} (e : (kvs.map fun p => p.2.1) = cs.map clD) (c : Cl) : (Dn.valN kvs (clD c)).isSome = decide (c ∈ cs) := by
  unfold Dn.valN
  rw [Option.isSome_map, Bool.eq_iff_iff, List.find?_isSome, decide_eq_true_iff]
  constructor
  · rintro ⟨p, hp, h⟩
    have m : p.2.1 ∈ cs.map clD := by
      rw [← e]
      exact List.mem_map.mpr ⟨p, hp, rfl⟩
    obtain ⟨c', hc', ec⟩ := List.mem_map.mp m
    have q := of_decide_eq_true h
    rw [← ec] at q
    rw [← nk_cl q]
    exact hc'
  · intro h
    have m : clD c ∈ kvs.map fun p => p.2.1 := by
      rw [e]
      exact List.mem_map_of_mem h
    obtain ⟨p, hp, ep⟩ := List.mem_map.mp m
    exact ⟨p, hp, decide_eq_true (congrArg Sd.nk ep)⟩
theorem bo_put {kvs : List Dn.En} {c : Cl} {b : Addr} {v : V} (h : H D = some (Dn.DN P w D kvs)) (k : Dn.KeysAt K H kvs) (e : (kvs.map fun p => p.2.1) = cs.map clD) (n : c ∉ cs) (dc : Dp K H (.ref b) (clD c)) :
    Bo P w K (upd H D (Dn.DN P w D (Dn.putN kvs b (clD c) v))) D (cs ++ [c]) := by
  have tk := tk_dn (K := K) (o := Dn.DN P w D (Dn.putN kvs b (clD c) v)) h
  have ep : Dn.putN kvs b (clD c) v = kvs ++ [(b, clD c, v)] := by
    unfold Dn.putN
    rw [bo_val e, decide_eq_false n]
    rfl
  refine ⟨_, upd_same, ?_, ?_⟩
  · generalize upd H D (Dn.DN P w D (Dn.putN kvs b (clD c) v)) = H2 at tk ⊢
    rw [ep]
    refine ⟨?_, fun p hp => ?_⟩
    · rw [List.map_append, List.map_append]
      refine da_app ?_ (da_one (dp_tk tk _ _ (tup_lits c) dc))
      have k1 := k.1
      rw [e] at k1 ⊢
      exact da_tk tk _ _ (tup_cls cs) k1
    · rcases List.mem_append.mp hp with h | h
      · exact k.2 p h
      · rw [List.mem_singleton.mp h]
        exact k8_cl c
  · rw [ep, List.map_append, e, List.map_append]
    rfl
end
section
variable {P : Program} {w : World} {K : PySem.W.Frag} {mg : Str → Option Value} {base : Heap}
theorem nd_take {α : Type} {l : List α} (nd : l.Nodup) {i : Nat} {c : α} (h : l[i]? = some c) : c ∉ l.take i := by
  intro m
  rw [← List.take_append_drop i l] at nd
  exact (List.nodup_append.mp nd).2.2 c m c (List.mem_iff_getElem?.mpr ⟨0, by rw [List.getElem?_drop]; exact h⟩) rfl
theorem pr_step {z : Str} {ns : List Str} {A lo hi : Nat} {L0 L1 L2 : List Cl} (hz : z ∉ ns) (m0 : ∀ c, c ∈ L0 ↔ PrimeM ns A c) (m1 : ∀ c, c ∈ L1 ↔ PrimeM ns lo c) (m2 : ∀ c, c ∈ L2 ↔ PrimeM ns hi c) (nd0 : L0.Nodup) (nd1 : L1.Nodup) (nd2 : L2.Nodup) :
    (L0 ++ (((L1.filter fun c => !decide (c ∈ L0)).map fun c => (z, (1 : Int)) :: c) ++ ((L2.filter fun c => !decide (c ∈ L0)).map fun c => (z, (0 : Int)) :: c))).Nodup ∧
    ∀ c, c ∈ (L0 ++ (((L1.filter fun c => !decide (c ∈ L0)).map fun c => (z, (1 : Int)) :: c) ++ ((L2.filter fun c => !decide (c ∈ L0)).map fun c => (z, (0 : Int)) :: c))) ↔ PrimeM ns A c ∨ (∃ d, c = (z, 1) :: d ∧ PrimeM ns lo d ∧ ¬ PrimeM ns A d) ∨ (∃ d, c = (z, 0) :: d ∧ PrimeM ns hi d ∧ ¬ PrimeM ns A d) := by
  have inj : ∀ (k : Int) (l : List Cl), l.Nodup → (l.map fun c => (z, k) :: c).Nodup := fun k l nd => List.pairwise_map.mpr (nd.imp fun {a b} h e => h (List.cons.inj e).2)
  have no : ∀ c ∈ L0, ∀ (k : Int) (d : Cl), c ≠ (z, k) :: d := fun c hc k d e => by
    have v := ((m0 c).mp hc).1
    rw [e] at v
    exact hz (v.2 (z, k) List.mem_cons_self).1
  refine ⟨List.nodup_append.mpr ⟨nd0, List.nodup_append.mpr ⟨inj _ _ (nd1.sublist List.filter_sublist), inj _ _ (nd2.sublist List.filter_sublist), fun a ha b hb e => ?_⟩, fun a ha b hb e => ?_⟩, fun c => ?_⟩
  · obtain ⟨x, _, ex⟩ := List.mem_map.mp ha
    obtain ⟨y, _, ey⟩ := List.mem_map.mp hb
    have e2 : (z, (1 : Int)) :: x = (z, (0 : Int)) :: y := by rw [ex, ey, e]
    exact absurd (show (1 : Int) = 0 from congrArg Prod.snd (List.cons.inj e2).1) (by decide)
  · rcases List.mem_append.mp hb with hb | hb
    · obtain ⟨y, _, ey⟩ := List.mem_map.mp hb
      exact no a ha 1 y (by rw [e, ← ey])
    · obtain ⟨y, _, ey⟩ := List.mem_map.mp hb
      exact no a ha 0 y (by rw [e, ← ey])
  · rw [List.mem_append, List.mem_append, m0, List.mem_map, List.mem_map]
    have one : ∀ (k : Int) (L : List Cl) (B : Nat), (∀ c, c ∈ L ↔ PrimeM ns B c) → ((∃ a, a ∈ (L.filter fun c => !decide (c ∈ L0)) ∧ (z, k) :: a = c) ↔ ∃ d, c = (z, k) :: d ∧ PrimeM ns B d ∧ ¬ PrimeM ns A d) := fun k L B m => by
      constructor
      · rintro ⟨a, h1, h2⟩
        obtain ⟨h3, h4⟩ := List.mem_filter.mp h1
        have h5 : a ∉ L0 := by simpa using h4
        exact ⟨a, h2.symm, (m a).mp h3, fun h => h5 ((m0 a).mpr h)⟩
      · rintro ⟨d, h1, h2, h3⟩
        exact ⟨d, List.mem_filter.mpr ⟨(m d).mpr h2, by simpa using fun h => h3 ((m0 d).mp h)⟩, h1.symm⟩
    rw [one 1 L1 lo m1, one 0 L2 hi m2]
theorem full_cons {z : Str} {ns : List Str} : full (z :: ns) = full ns * full ns := by
  show 2 ^ 2 ^ (ns.length + 1) = 2 ^ 2 ^ ns.length * 2 ^ 2 ^ ns.length
  rw [← Nat.pow_add, Nat.pow_succ]
  congr 1
  omega
/-- the primes of a mask -/
def spPr (K : PySem.W.Frag) : Nat → Sp
  | 0 => fun _ _ _ _ => False
  | k + 1 => fun vs H Q _ => ∃ (a : Addr) (ns : List Str) (M : Nat), vs = [.ref a, .int (M : Int)] ∧ SqT K H a (ns.map V.str) ∧ ns.length ≤ k ∧ ns.length ≤ 5 ∧ (∀ z ∈ ns, PyData.strOk z = true) ∧ Asc ns ∧ M < full ns ∧
    ∀ (r : Addr) (us : List V) (L : List Cl) (H' : Hp), Same H H' → H r = none → H' r = some (.lst us) → DpAll K H' us (L.map clD) → L.Nodup → (∀ c, c ∈ L ↔ PrimeM ns M c) → L.length ≤ 3 ^ ns.length → Q (.ref r) H'
set_option maxHeartbeats 1000000 in
theorem ok_primes {f : Addr} {fd : FuncData} (F : Fun K "prime_clauses" "prime_clauses" s_prime_clauses f fd) (C_everything : Cal P w K mg base "everything" 1 ["names"] (spEv K)) (C__half : Cal P w K mg base "_half" 1 ["names"] (spHalf K))
    (gS : mg "prime_clauses" = some (.ref f)) (kS : PySem.W.keepIn K (.ref f) = true) (bS : Binds K fd ["names", "fails"] []) : ∀ k : Nat, FnOk P w K mg base CX0 (k + 1) f fd ["names", "fails"] (spPr K k)
  | 0 => F.ok sc_prime_clauses (fun vs H Q E h => h.elim) (fun cdv A outer s H vs Q E hr h => h.elim)
  | k + 1 => by
    have C_prime_clauses : Cal P w K mg base "prime_clauses" (k + 1) ["names", "fails"] (spPr K k) := ⟨_, _, ok_primes F C_everything C__half gS kS bS k, gS, kS, bS⟩
    refine F.ok sc_prime_clauses (fun vs H Q E h => ?_) (fun cdv A outer s H vs Q E hr h => ?_)
    · obtain ⟨a, ns, M, rfl, _⟩ := h
      rfl
    · obtain ⟨a, ns, M, rfl, ha, lk, l5, okn, asc, hM, q⟩ := h
      refine ⟨_, (pss_cons (ps_if (pt_cmpR op_eq (pv 1) pe_int (nomark _))
      (pss_one (ps_ret (pe_lst pa_nil)))
      pss_nil)
    (pss_cons (ps_if (pt_cmpR op_eq (pv 1) (pe_cal C_everything (hr.mono (by omega)) (pa_cons (pv 0) pa_nil)) (nomark _))
      (pss_one (ps_ret (pe_lst (pa_cons (pe_tup pa_nil) pa_nil))))
      pss_nil)
    (pss_cons (ps_set (i := 2) sc_prime_clauses.nd rfl (Or.inl rfl) (pe_cal C__half (hr.mono (by omega)) (pa_cons (pv 0) pa_nil)))
    (pss_cons (ps_set (i := 3) sc_prime_clauses.nd rfl (Or.inl rfl) (pe_op op_andM (pv 1) (pe_op op_sub (pe_op op_oneShl pe_int (pv 2)) pe_int)))
    (pss_cons (ps_set (i := 4) sc_prime_clauses.nd rfl (Or.inl rfl) (pe_op op_shrN (pv 1) (pv 2)))
    (pss_cons (ps_set (i := 5) sc_prime_clauses.nd rfl (Or.inr rfl) (Dn.pe_dcN (K := K) (P := P) (w := w) (own := [("clause", 9)]) (tt := tYes) rfl rfl rfl rfl (room hr) sc_prime_clauses.nd (pi_list (pe_cal C_prime_clauses (hr.mono (by omega)) (pa_cons (pe_slice sl_tupA (pv 0) (po_some pe_int) po_none) (pa_cons (pe_op op_and (pv 3) (pv 4)) pa_nil)))) (blkOk_by (N := n_prime_clauses) (sc := defScope s_prime_clauses) (by decide +kernel)) (fun _ _ _ _ _ => pg_name (i := 9) sc_prime_clauses.nd rfl (Or.inl rfl)) (fun _ _ _ _ _ => pts_nil) (fun _ _ _ _ _ => (pv 9)) (fun _ _ _ _ _ => pe_bl)))
    (pss_cons (ps_setLc (i := 6) (own := [("clause", 9)]) rfl sc_prime_clauses.nd rfl rfl (sw_true rfl rfl rfl (by decide +kernel)) (pi_list (pe_cal C_prime_clauses (hr.mono (by omega)) (pa_cons (pe_slice sl_tupA (pv 0) (po_some pe_int) po_none) (pa_cons (pv 3) pa_nil)))) (blkOk_by (N := n_prime_clauses) (sc := defScope s_prime_clauses) (by decide +kernel)) (fun _ _ _ _ _ => pg_name (i := 9) sc_prime_clauses.nd rfl (Or.inl rfl)) (fun _ _ _ _ _ => pts_one (pt_cmpR (Dn.op_notInN (K := K) (P := P) (w := w) rfl rfl rfl (room hr)) (pv 9) (pv 5) (by rfl))) (fun _ _ _ _ _ => (pv 9)))
    (pss_cons (ps_setLc (i := 7) (own := [("clause", 9)]) rfl sc_prime_clauses.nd rfl rfl (sw_true rfl rfl rfl (by decide +kernel)) (pi_list (pe_cal C_prime_clauses (hr.mono (by omega)) (pa_cons (pe_slice sl_tupA (pv 0) (po_some pe_int) po_none) (pa_cons (pv 4) pa_nil)))) (blkOk_by (N := n_prime_clauses) (sc := defScope s_prime_clauses) (by decide +kernel)) (fun _ _ _ _ _ => pg_name (i := 9) sc_prime_clauses.nd rfl (Or.inl rfl)) (fun _ _ _ _ _ => pts_one (pt_cmpR (Dn.op_notInN (K := K) (P := P) (w := w) rfl rfl rfl (room hr)) (pv 9) (pv 5) (by rfl))) (fun _ _ _ _ _ => (pv 9)))
    (pss_cons (ps_set (i := 8) sc_prime_clauses.nd rfl (Or.inr rfl) (pe_ix ix_tup (pv 0) pe_int (fun _ _ => rfl)))
    (pss_one (ps_ret (pe_lst (Dn.pa_starN (P := P) (w := w) rfl rfl rfl (pv 5) (StX.pa_star (pe_lc (own := [("clause", 9)]) (tt := tYes) rfl sc_prime_clauses.nd (pi_list (pv 6)) (blkOk_by (N := n_prime_clauses) (sc := defScope s_prime_clauses) (by decide +kernel)) (fun _ _ _ _ _ => pg_name (i := 9) sc_prime_clauses.nd rfl (Or.inl rfl)) (fun _ _ _ _ _ => pts_nil) (fun _ _ _ _ _ => (pe_tup (pa_cons (pe_tup (pa_cons (pv 8) (pa_cons pe_int pa_nil))) (pa_starK (K0 := K) rfl (pv 9) pa_nil))))) (StX.pa_star (pe_lc (own := [("clause", 9)]) (tt := tYes) rfl sc_prime_clauses.nd (pi_list (pv 7)) (blkOk_by (N := n_prime_clauses) (sc := defScope s_prime_clauses) (by decide +kernel)) (fun _ _ _ _ _ => pg_name (i := 9) sc_prime_clauses.nd rfl (Or.inl rfl)) (fun _ _ _ _ _ => pts_nil) (fun _ _ _ _ _ => (pe_tup (pa_cons (pe_tup (pa_cons (pv 8) (pa_cons pe_int pa_nil))) (pa_starK (K0 := K) rfl (pv 9) pa_nil))))) pa_nil))))))))))))))), ?_⟩
      walk_at "rd"
      refine ite2 (fun m => ?_) (fun m => ?_)
      · have e0 : M = 0 := by
          have := int_t m
          omega
        subst e0
        walk_at "rd"
        refine ⟨sz (by decide), fun E0 nE0 => ?_⟩
        exact q E0 [] [] _ (same_new nE0) nE0 upd_same .nil List.nodup_nil (fun c => ⟨fun h => (nomatch h), fun h => (pm_zero h).elim⟩) (Nat.zero_le _)
      have n0 : M ≠ 0 := fun e => int_f m (by rw [e]; rfl)
      walk_at "rd"
      show spEv K _ _ _ _
      unfold spEv
      refine ⟨a, ns, rfl, ha, l5, ?_⟩
      walk_at "rd"
      refine ite2 (fun m2 => ?_) (fun m2 => ?_)
      · have e0 : M = full ns - 1 := by
          have := int_t m2
          omega
        subst e0
        walk_at "rd"
        refine ⟨sz (by decide), fun T nT => ?_⟩
        have s1 := same_new nT (o := .tup ([] : List V))
        have hT := upd_same (H := H) (a := T) (o := .tup ([] : List V))
        generalize upd H T (.tup []) = H1 at s1 hT ⊢
        walk_at "rd"
        refine ⟨sz (by show 1 ≤ 100000; decide), fun E0 nE0 => ?_⟩
        have s2 := same_new nE0 (o := .lst [V.ref T])
        exact q E0 _ [[]] _ (s1.trans s2) (s1.free nE0) upd_same (da_one (.tup (Bx.Same.tup s2 (sqt hT)) .nil)) (List.nodup_cons.mpr ⟨fun h => (nomatch h), List.nodup_nil⟩) (fun c => by rw [pm_all, List.mem_singleton]) (Nat.pow_pos (by decide))
      have n1 : M ≠ full ns - 1 := fun e => int_f m2 (by rw [e])
      cases ns with
      | nil =>
        exfalso
        have e2 : full ([] : List Str) = 2 := rfl
        omega
      | cons z ns =>
        obtain ⟨k', rfl⟩ : ∃ k', k = k' + 1 := ⟨k - 1, by
          simp only [List.length_cons] at lk
          omega⟩
        simp only [List.length_cons] at lk l5
        obtain ⟨up, asc'⟩ := List.pairwise_cons.mp asc
        have okz := okn z List.mem_cons_self
        have okn' : ∀ y ∈ ns, PyData.strOk y = true := fun y hy => okn y (List.mem_cons_of_mem _ hy)
        have hz : z ∉ ns := fun h => List.lt_irrefl _ (up z h)
        have fe : full (z :: ns) = full ns * full ns := full_cons
        have fp : 0 < full ns := Nat.pow_pos (by decide)
        walk_at "rd"
        show spHalf K _ _ _ _
        unfold spHalf
        refine ⟨a, z, ns, rfl, ha, by omega, ?_⟩
        walk_at "rd"
        refine ⟨2 ^ ns.length, rfl, rfl, by have := two_small (n := ns.length) (by omega); omega, ?_⟩
        walk_at "rd"
        have elo : (M : Int) % 2 ^ 2 ^ ns.length = ((M % full ns : Nat) : Int) := by rw [cast_pow, Int.natCast_emod]
        have ehi : (M : Int) / 2 ^ 2 ^ ns.length = ((M / full ns : Nat) : Int) := by rw [cast_pow, Int.natCast_ediv]
        have hlo : M % full ns < full ns := Nat.mod_lt _ fp
        have hhi : M / full ns < full ns := Nat.div_lt_of_lt_mul (by rw [← fe]; exact hM)
        have stp := pm_step (M := M) hz up (rfl : M % full ns = _) (rfl : M / full ns = _)
        rw [elo, ehi]
        generalize M % full ns = lo at hlo stp ⊢
        generalize M / full ns = hi at hhi stp ⊢
        unfold tNoPart
        dsimp only
        refine slice_any ha fun c1 H1 s1 h1 => ?_
        rw [show ((1 : Int)) = ((1 : Nat) : Int) from rfl, cut_suf] at h1
        walk_at "rd"
        refine ⟨c1, ns, lo &&& hi, by show [V.ref c1, V.int (Builtin.bitAnd (lo : Int) (hi : Int))] = _; rw [bitAnd_nat], h1, by omega, by omega, okn', asc', Nat.lt_of_le_of_lt Nat.and_le_left hlo, fun r0 us0 L0 H2 s2 nr0 hr0 d0 nd0 m0 l0 => ?_⟩
        have s02 := s1.trans s2
        have ul0 : us0.length = L0.length := by rw [da_len d0, List.length_map]
        have p5 : 3 ^ ns.length ≤ 81 := Nat.pow_le_pow_right (n := 3) (i := ns.length) (j := 4) (by decide) (by omega)
        walk_at "rd"
        refine ⟨⟨_, sq hr0⟩, fun D hD => ?_⟩
        refine walk_any walk_list (fun i H' => Same H2 H' ∧ Bo P w K H' D (L0.take i)) ⟨same_new hD, bo_nil⟩ (fun i H' _ h => sq (h.1 _ _ hr0)) ?_ ?_
        · rintro i x H3a H3 hi ⟨s3, bo⟩ ⟨rfl, hx⟩
          obtain ⟨c, hc, dc⟩ := da_atM d0 hx
          obtain ⟨cq, ys, rfl, hcq, dcl⟩ := cl_dp dc
          obtain ⟨kvs, hk, ka, ke⟩ := bo
          have kl : kvs.length ≤ L0.length := by
            have z := congrArg List.length ke
            rw [List.length_map, List.length_map] at z
            have := List.length_take_le' i L0
            omega
          refine ⟨rfl, ?_⟩
          walk_at "rd"
          refine ⟨cq, clD c, kvs, rfl, hk, ka, dp_same s3 dc, k8_cl c, szl (by omega), same_at hD s3, ?_⟩
          rw [List.take_add_one, hc]
          exact bo_put hk ka ke (nd_take nd0 hc) (dp_same s3 dc)
        rintro H3 ⟨s3, bo⟩
        rw [ul0, List.take_length] at bo
        have s03 := s02.trans s3
        walk_at "rd"
        dsimp only
        refine slice_any (Bx.Same.tup s03 ha) fun c2 H4 s4 h2 => ?_
        rw [show ((1 : Int)) = ((1 : Nat) : Int) from rfl, cut_suf] at h2
        have s04 := s03.trans s4
        walk_at "rd"
        refine ⟨c2, ns, lo, rfl, h2, by omega, by omega, okn', asc', hlo, fun r1 us1 L1 H5 s5 nr1 hr1 d1 nd1 m1 l1 => ?_⟩
        have s05 := s04.trans s5
        have ul1 : us1.length = L1.length := by rw [da_len d1, List.length_map]
        have bo3 := bo_same (s4.trans s5) bo
        clear bo
        walk_at "rd"
        refine ⟨⟨_, sq hr1⟩, fun D1 hD1 => ?_⟩
        refine lc_it walk_list (fun i H' => Same H5 H' ∧ ∃ us, H' D1 = some (.lst us) ∧ DpAll K H5 us (((L1.take i).filter fun c => !decide (c ∈ L0)).map clD)) ⟨same_new hD1, [], upd_same, .nil⟩ (fun i H' _ h => sq (h.1 _ _ hr1)) ?_ ?_
        · rintro i x Ha Hb hi ⟨sa, us, hM, hda⟩ ⟨rfl, hx⟩
          obtain ⟨c, hc, dc⟩ := da_atM d1 hx
          obtain ⟨cq, ys, rfl, hcq, dcl⟩ := cl_dp dc
          obtain ⟨kvs, hk, ka, ke⟩ := bo_same sa bo3
          refine ⟨rfl, ?_⟩
          walk_at "rd"
          refine ⟨cq, clD c, D, kvs, rfl, rfl, dp_same sa dc, k8_cl c, .inl hk, ka, ?_⟩
          rw [bo_val ke]
          walk_at "rd"
          have ef : ((L1.take (i + 1)).filter fun c => !decide (c ∈ L0)) = ((L1.take i).filter fun c => !decide (c ∈ L0)) ++ if (!decide (c ∈ L0)) = true then [c] else [] := by
            rw [List.take_add_one, hc, List.filter_append]
            congr 1
            by_cases m : c ∈ L0 <;> simp [m]
          have ul : us.length ≤ L1.length := by
            rw [da_len hda, List.length_map]
            exact Nat.le_trans (List.length_filter_le _ _) (List.length_take_le' i L1)
          rw [ef]
          refine ite2 (fun m => ?_) (fun m => ?_)
          · have m' : (!decide (c ∈ L0)) = true := m
            rw [if_pos m']
            walk_at "rd"
            refine ⟨us, hM, szl (by omega), same_at hD1 sa, us ++ [.ref cq], upd_same, ?_⟩
            rw [List.map_append]
            exact da_app hda (da_one dc)
          · have m' : ¬ (!decide (c ∈ L0)) = true := fun h => m h
            rw [if_neg m', List.append_nil]
            exact ⟨sa, us, hM, hda⟩
        rintro H6 ⟨s6, fs1, hF1, dF1⟩
        rw [ul1, List.take_length] at dF1
        have s06 := s05.trans s6
        have bo := bo_same s6 bo3
        walk_at "rd"
        dsimp only
        refine slice_any (Bx.Same.tup s06 ha) fun c3 H7 s7 h3 => ?_
        rw [show ((1 : Int)) = ((1 : Nat) : Int) from rfl, cut_suf] at h3
        have s07 := s06.trans s7
        walk_at "rd"
        refine ⟨c3, ns, hi, rfl, h3, by omega, by omega, okn', asc', hhi, fun r2 us2 L2 H8 s8 nr2 hr2 d2 nd2 m2 l2 => ?_⟩
        have s08 := s07.trans s8
        have ul2 : us2.length = L2.length := by rw [da_len d2, List.length_map]
        have bo6 := bo_same (s7.trans s8) bo
        clear bo
        walk_at "rd"
        refine ⟨⟨_, sq hr2⟩, fun D2 hD2 => ?_⟩
        refine lc_it walk_list (fun i H' => Same H8 H' ∧ ∃ us, H' D2 = some (.lst us) ∧ DpAll K H8 us (((L2.take i).filter fun c => !decide (c ∈ L0)).map clD)) ⟨same_new hD2, [], upd_same, .nil⟩ (fun i H' _ h => sq (h.1 _ _ hr2)) ?_ ?_
        · rintro i x Ha Hb hi ⟨sa, us, hM, hda⟩ ⟨rfl, hx⟩
          obtain ⟨c, hc, dc⟩ := da_atM d2 hx
          obtain ⟨cq, ys, rfl, hcq, dcl⟩ := cl_dp dc
          obtain ⟨kvs, hk, ka, ke⟩ := bo_same sa bo6
          refine ⟨rfl, ?_⟩
          walk_at "rd"
          refine ⟨cq, clD c, D, kvs, rfl, rfl, dp_same sa dc, k8_cl c, .inl hk, ka, ?_⟩
          rw [bo_val ke]
          walk_at "rd"
          have ef : ((L2.take (i + 1)).filter fun c => !decide (c ∈ L0)) = ((L2.take i).filter fun c => !decide (c ∈ L0)) ++ if (!decide (c ∈ L0)) = true then [c] else [] := by
            rw [List.take_add_one, hc, List.filter_append]
            congr 1
            by_cases m : c ∈ L0 <;> simp [m]
          have ul : us.length ≤ L2.length := by
            rw [da_len hda, List.length_map]
            exact Nat.le_trans (List.length_filter_le _ _) (List.length_take_le' i L2)
          rw [ef]
          refine ite2 (fun m => ?_) (fun m => ?_)
          · have m' : (!decide (c ∈ L0)) = true := m
            rw [if_pos m']
            walk_at "rd"
            refine ⟨us, hM, szl (by omega), same_at hD2 sa, us ++ [.ref cq], upd_same, ?_⟩
            rw [List.map_append]
            exact da_app hda (da_one dc)
          · have m' : ¬ (!decide (c ∈ L0)) = true := fun h => m h
            rw [if_neg m', List.append_nil]
            exact ⟨sa, us, hM, hda⟩
        rintro H9 ⟨s9, fs2, hF2, dF2⟩
        rw [ul2, List.take_length] at dF2
        have s09 := s08.trans s9
        have bo := bo_same s9 bo6
        have prs := pr_step hz m0 m1 m2 nd0 nd1 nd2
        have q1 : (L1.filter fun c => !decide (c ∈ L0)).length ≤ L1.length := List.length_filter_le _ _
        have q2 : (L2.filter fun c => !decide (c ∈ L0)).length ≤ L2.length := List.length_filter_le _ _
        have gl1 : ∀ c ∈ (L1.filter fun c => !decide (c ∈ L0)), c.length ≤ 1000 := fun c hc => by
          have := vc_len ((m1 c).mp (List.mem_filter.mp hc).1).1
          omega
        have gl2 : ∀ c ∈ (L2.filter fun c => !decide (c ∈ L0)), c.length ≤ 1000 := fun c hc => by
          have := vc_len ((m2 c).mp (List.mem_filter.mp hc).1).1
          omega
        have gu1 : fs1.length = (L1.filter fun c => !decide (c ∈ L0)).length := by rw [da_len dF1, List.length_map]
        have gu2 : fs2.length = (L2.filter fun c => !decide (c ∈ L0)).length := by rw [da_len dF2, List.length_map]
        have hG1 := ((s7.trans s8).trans s9) _ _ hF1
        have dG1 := dpAll_same (((s6.trans s7).trans s8).trans s9) dF1
        have dG2 := dpAll_same s9 dF2
        generalize (L1.filter fun c => !decide (c ∈ L0)) = G1 at prs q1 gl1 gu1 dG1
        generalize (L2.filter fun c => !decide (c ∈ L0)) = G2 at prs q2 gl2 gu2 dG2
        walk_at "rd"
        refine ⟨_, _, _, _, rfl, rfl, Bx.Same.tup s09 ha, atI_nat (j := 0) rfl, ?_⟩
        walk_at "rd"
        obtain ⟨kvs, hk, ka, ke⟩ := bo
        refine ⟨D, kvs, rfl, .inl hk, ?_⟩
        walk_at "rd"
        refine ⟨⟨_, sq hG1⟩, fun E1 hE1 => ?_⟩
        refine lc_it walk_list (fun i H' => Same H9 H' ∧ ∃ us, H' E1 = some (.lst us) ∧ DpAll K (mn H' [E1]) us (((G1.take i).map fun c => (z, (1 : Int)) :: c).map clD)) ⟨same_new hE1, [], upd_same, .nil⟩ (fun i H' _ h => sq (h.1 _ _ hG1)) ?_ ?_
        · rintro i x Ha Hb hi ⟨sa, us, hM, hda⟩ ⟨rfl, hx⟩
          obtain ⟨c, hc, dc⟩ := da_atM dG1 hx
          obtain ⟨cq, ys, rfl, hcq, dcl⟩ := cl_dp dc
          have okc : c.length ≤ 1000 := gl1 c (List.mem_of_getElem? hc)
          have yl : ys.length = c.length := by rw [da_len dcl, List.length_map]
          have ul : us.length ≤ G1.length := by
            rw [da_len hda, List.length_map, List.length_map]
            exact List.length_take_le' i G1
          refine ⟨rfl, ?_⟩
          walk_at "rd"
          refine ⟨sz (by show 2 ≤ 100000; decide), fun T nT => ?_⟩
          have sb := same_new nT (o := .tup [V.str z, .int 1])
          have hT := upd_same (H := Hb) (a := T) (o := .tup [V.str z, .int 1])
          have hMb := sb _ _ hM
          generalize upd Hb T (.tup [V.str z, .int 1]) = Hc at sb hT hMb ⊢
          walk_at "rd"
          refine ⟨cq, ys, rfl, .inl (Bx.Same.tup (sa.trans sb) hcq), ?_⟩
          walk_at "rd"
          refine ⟨sz (by show (V.ref T :: (ys ++ [])).length ≤ 100000; rw [List.append_nil, List.length_cons]; omega), fun N nN => ?_⟩
          have sc := same_new nN (o := .tup (V.ref T :: (ys ++ [])))
          have hN := upd_same (H := Hc) (a := N) (o := .tup (V.ref T :: (ys ++ [])))
          have hMc := sc _ _ hMb
          have NE : N ≠ E1 := fun e => by
            rw [e, hMb] at nN
            cases nN
          have TE : T ≠ E1 := fun e => by
            rw [e, hM] at nT
            cases nT
          generalize upd Hc N (.tup (V.ref T :: (ys ++ []))) = Hd at sc hN hMc ⊢
          refine ⟨us, hMc, szl (by omega), same_at hE1 ((sa.trans sb).trans sc), us ++ [.ref N], upd_same, ?_⟩
          rw [mn_upd (by simp), List.take_add_one, hc, List.map_append, List.map_append]
          refine da_app (dpAll_same (mn_all (sb.trans sc)) hda) (da_one ?_)
          have tk : Tk K H9 (mn Hd [E1]) := fun a xs h => by
            have sx := (sa.trans sb).trans sc
            rcases Bx.Same.tup sx h with (h | ⟨o, h⟩) | h
            · exact .inl (.inl (mn_at (by intro e; rw [List.mem_singleton.mp e, hMc] at h; cases h) h))
            · exact .inl (.inr ⟨o, mn_at (by intro e; rw [List.mem_singleton.mp e, hMc] at h; cases h) h⟩)
            · exact .inr h
          rw [List.append_nil] at hN
          exact .tup (sqt (mn_at (by simp [NE]) hN)) (.cons (dp_lit (l := (z, 1)) (sqt (mn_at (by simp [TE]) (sc _ _ hT)))) (da_tk tk _ _ (tup_lits c) dcl))
        rintro H10 ⟨s10, vs1, hV1, dV1⟩
        rw [gu1, List.take_length] at dV1
        have s010 := s09.trans s10
        have dW1 := dpAll_same (mn_same (H := H10) (S := [E1])) dV1
        refine ⟨_, _, rfl, .inr (sq hV1), ?_⟩
        walk_at "rd"
        have hG2 := s10 _ _ hF2
        have dG2 := dpAll_same s10 dG2
        refine ⟨⟨_, sq hG2⟩, fun E2 hE2 => ?_⟩
        refine lc_it walk_list (fun i H' => Same H10 H' ∧ ∃ us, H' E2 = some (.lst us) ∧ DpAll K (mn H' [E2]) us (((G2.take i).map fun c => (z, (0 : Int)) :: c).map clD)) ⟨same_new hE2, [], upd_same, .nil⟩ (fun i H' _ h => sq (h.1 _ _ hG2)) ?_ ?_
        · rintro i x Ha Hb hi ⟨sa, us, hM, hda⟩ ⟨rfl, hx⟩
          obtain ⟨c, hc, dc⟩ := da_atM dG2 hx
          obtain ⟨cq, ys, rfl, hcq, dcl⟩ := cl_dp dc
          have okc : c.length ≤ 1000 := gl2 c (List.mem_of_getElem? hc)
          have yl : ys.length = c.length := by rw [da_len dcl, List.length_map]
          have ul : us.length ≤ G2.length := by
            rw [da_len hda, List.length_map, List.length_map]
            exact List.length_take_le' i G2
          refine ⟨rfl, ?_⟩
          walk_at "rd"
          refine ⟨sz (by show 2 ≤ 100000; decide), fun T nT => ?_⟩
          have sb := same_new nT (o := .tup [V.str z, .int 0])
          have hT := upd_same (H := Hb) (a := T) (o := .tup [V.str z, .int 0])
          have hMb := sb _ _ hM
          generalize upd Hb T (.tup [V.str z, .int 0]) = Hc at sb hT hMb ⊢
          walk_at "rd"
          refine ⟨cq, ys, rfl, .inl (Bx.Same.tup (sa.trans sb) hcq), ?_⟩
          walk_at "rd"
          refine ⟨sz (by show (V.ref T :: (ys ++ [])).length ≤ 100000; rw [List.append_nil, List.length_cons]; omega), fun N nN => ?_⟩
          have sc := same_new nN (o := .tup (V.ref T :: (ys ++ [])))
          have hN := upd_same (H := Hc) (a := N) (o := .tup (V.ref T :: (ys ++ [])))
          have hMc := sc _ _ hMb
          have NE : N ≠ E2 := fun e => by
            rw [e, hMb] at nN
            cases nN
          have TE : T ≠ E2 := fun e => by
            rw [e, hM] at nT
            cases nT
          generalize upd Hc N (.tup (V.ref T :: (ys ++ []))) = Hd at sc hN hMc ⊢
          refine ⟨us, hMc, szl (by omega), same_at hE2 ((sa.trans sb).trans sc), us ++ [.ref N], upd_same, ?_⟩
          rw [mn_upd (by simp), List.take_add_one, hc, List.map_append, List.map_append]
          refine da_app (dpAll_same (mn_all (sb.trans sc)) hda) (da_one ?_)
          have tk : Tk K H10 (mn Hd [E2]) := fun a xs h => by
            have sx := (sa.trans sb).trans sc
            rcases Bx.Same.tup sx h with (h | ⟨o, h⟩) | h
            · exact .inl (.inl (mn_at (by intro e; rw [List.mem_singleton.mp e, hMc] at h; cases h) h))
            · exact .inl (.inr ⟨o, mn_at (by intro e; rw [List.mem_singleton.mp e, hMc] at h; cases h) h⟩)
            · exact .inr h
          rw [List.append_nil] at hN
          exact .tup (sqt (mn_at (by simp [NE]) hN)) (.cons (dp_lit (l := (z, 0)) (sqt (mn_at (by simp [TE]) (sc _ _ hT)))) (da_tk tk _ _ (tup_lits c) dcl))
        rintro H11 ⟨s11, vs2, hV2, dV2⟩
        rw [gu2, List.take_length] at dV2
        have s011 := s010.trans s11
        have dW2 := dpAll_same (mn_same (H := H11) (S := [E2])) dV2
        refine ⟨_, _, rfl, .inr (sq hV2), ?_⟩
        walk_at "rd"
        have dl : kvs.length = L0.length := by
          have z := congrArg List.length ke
          rwa [List.length_map, List.length_map] at z
        have vl1 : vs1.length = G1.length := by rw [da_len dW1, List.length_map, List.length_map]
        have vl2 : vs2.length = G2.length := by rw [da_len dW2, List.length_map, List.length_map]
        have p3 : 3 ^ (ns.length + 1) = 3 ^ ns.length * 3 := Nat.pow_succ ..
        refine ⟨sz (by
          show ((kvs.map fun (p : Dn.En) => V.ref p.1) ++ (vs1 ++ (vs2 ++ []))).length ≤ 100000
          rw [List.append_nil, List.length_append, List.length_append, List.length_map]
          omega), fun R nR => ?_⟩
        rw [List.append_nil]
        have sR := same_new nR (o := .lst ((kvs.map fun p => V.ref p.1) ++ (vs1 ++ vs2)))
        have hR := upd_same (H := H11) (a := R) (o := .lst ((kvs.map fun p => V.ref p.1) ++ (vs1 ++ vs2)))
        generalize upd H11 R (.lst ((kvs.map fun p => V.ref p.1) ++ (vs1 ++ vs2))) = H12 at sR hR ⊢
        have k1 := ka.1
        rw [ke] at k1
        refine q R _ _ H12 (s011.trans sR) (s011.free nR) hR ?_ prs.1 (fun c => by rw [prs.2 c, stp c]) ?_
        · rw [List.map_append, List.map_append]
          exact da_app (dpAll_same ((s10.trans s11).trans sR) k1) (da_app (dpAll_same (s11.trans sR) dW1) (dpAll_same sR dW2))
        · simp only [List.length_append, List.length_map, List.length_cons]
          omega
end
end K10
namespace K10
local macro_rules | `(tactic| walk_at "rd") => `(tactic| repeat (first | refine ⟨rfl, ?_⟩ | refine ⟨_, rfl, ?_⟩ | refine ⟨_, _, rfl, rfl, ?_⟩ | refine ⟨⟨_, rfl⟩, ?_⟩))
open PySem PySem.Spec PyProof.Rows L2 Bx TL Dx Zx Ow Sup NdefX Px
theorem alike_lit (x y : Lit) : PySem.W.alike (litD x) (litD y) = true := rfl
theorem alike_lits : ∀ c d : Cl, PySem.W.alikeAll (c.map litD) (d.map litD) = true
  | [], _ => by simp [PySem.W.alikeAll]
  | _ :: _, [] => by simp [PySem.W.alikeAll]
  | x :: c, y :: d => by
    show PySem.W.alikeAll (litD x :: c.map litD) (litD y :: d.map litD) = true
    rw [PySem.W.alikeAll, alike_lits c d, alike_lit]
    rfl
theorem alike_cl (c d : Cl) : PySem.W.alike (clD c) (clD d) = true := by
  show PySem.W.alike (.tuple (c.map litD)) (.tuple (d.map litD)) = true
  rw [PySem.W.alike, alike_lits]
theorem all_alike {α : Type} {f : α → PyData} (h : ∀ x y, PySem.W.alike (f x) (f y) = true) (l : List α) : PySem.W.AllAlike (l.map f) := by
  intro d hd d' hd'
  obtain ⟨x, _, rfl⟩ := List.mem_map.mp hd
  obtain ⟨y, _, rfl⟩ := List.mem_map.mp hd'
  exact h x y
theorem tk_mn {K : PySem.W.Frag} {H H' : Hp} {D : Addr} {us : List V} (s : Same H H') (hM : H' D = some (.lst us)) : Tk K H (mn H' [D]) := fun a xs h => by
  rcases Bx.Same.tup s h with (h | ⟨o, h⟩) | h
  · exact .inl (.inl (mn_at (by intro e; rw [List.mem_singleton.mp e, hM] at h; cases h) h))
  · exact .inl (.inr ⟨o, mn_at (by intro e; rw [List.mem_singleton.mp e, hM] at h; cases h) h⟩)
  · exact .inr h
/-- sorted(xs) of clauses, of literals -/
theorem sort_cls {K : PySem.W.Frag} {H : Hp} {a : Addr} {vs : List V} {cs : List Cl} {Q : VK} (ha : SqL K H a vs) (hd : DpAll K H vs (cs.map clD)) (hl : cs.length ≤ 100000) (q : ∀ (ys : List V) (p : Addr), H p = none → DpAll K H ys ((cs.mergeSort cle).map clD) → Q (.ref p) (upd H p (.lst ys))) : Sd.rSortT K [.ref a] H Q := by
  refine ⟨a, vs, _, rfl, ha, hd, all_alike alike_cl cs, fun d hd => ?_, by rw [List.length_map]; exact sz hl, fun d hd => ?_, fun ys p np dy => q ys p np ?_⟩
  · obtain ⟨c, _, rfl⟩ := List.mem_map.mp hd
    exact ⟨_, rfl⟩
  · obtain ⟨c, _, rfl⟩ := List.mem_map.mp hd
    have := dep_cl c
    omega
  · rwa [cls_sort] at dy
theorem sort_lits {K : PySem.W.Frag} {H : Hp} {a : Addr} {vs : List V} {c : Cl} {Q : VK} (ha : SqL K H a vs) (hd : DpAll K H vs (c.map litD)) (hl : c.length ≤ 100000) (q : ∀ (ys : List V) (p : Addr), H p = none → DpAll K H ys ((c.mergeSort lle).map litD) → Q (.ref p) (upd H p (.lst ys))) : Sd.rSortT K [.ref a] H Q := by
  refine ⟨a, vs, _, rfl, ha, hd, all_alike alike_lit c, fun d hd => ?_, by rw [List.length_map]; exact sz hl, fun d hd => ?_, fun ys p np dy => q ys p np ?_⟩
  · obtain ⟨c, _, rfl⟩ := List.mem_map.mp hd
    exact ⟨_, rfl⟩
  · obtain ⟨c, _, rfl⟩ := List.mem_map.mp hd
    have := dep_lit c
    omega
  · rwa [lits_sort] at dy
theorem sort_litsT {K : PySem.W.Frag} {H : Hp} {a : Addr} {vs : List V} {c : Cl} {Q : VK} (ha : SqT K H a vs) (hd : DpAll K H vs (c.map litD)) (hl : c.length ≤ 100000) (q : ∀ (ys : List V) (p : Addr), H p = none → DpAll K H ys ((c.mergeSort lle).map litD) → Q (.ref p) (upd H p (.lst ys))) : Sd.rSortTT K [.ref a] H Q := by
  refine ⟨a, vs, _, rfl, ha, hd, all_alike alike_lit c, fun d hd => ?_, by rw [List.length_map]; exact sz hl, fun d hd => ?_, fun ys p np dy => q ys p np ?_⟩
  · obtain ⟨c, _, rfl⟩ := List.mem_map.mp hd
    exact ⟨⟨_, rfl⟩, rfl⟩
  · obtain ⟨c, _, rfl⟩ := List.mem_map.mp hd
    have := dep_lit c
    omega
  · rwa [lits_sort] at dy
/-- a clause under other names -/
def rnL (t : Tb) (l : Lit) : Lit := (rn t l.1, l.2)
def rnC (t : Tb) (c : Cl) : Cl := (c.map (rnL t)).mergeSort lle
theorem rnC_len (t : Tb) (c : Cl) : (rnC t c).length = c.length := by
  unfold rnC
  rw [List.length_mergeSort, List.length_map]
section
variable {P : Program} {w : World} {K : PySem.W.Frag} {mg : Str → Option Value} {base : Heap}
@[irreducible] def spContr (K : PySem.W.Frag) : Sp := fun vs H Q _ => ∃ a : Addr, vs = [.ref a] ∧ ∀ r, H r = none → Q (.ref r) (upd H r (.tup []))
theorem ok_contr {f : Addr} {fd : FuncData} (F : Fun K "contradiction" "Bits.contradiction" s_Bits_contradiction f fd) : FnOk P w K mg base CX0 1 f fd ["self"] (spContr K) := by
  refine F.ok sc_Bits_contradiction (fun vs H Q E h => ?_) (fun cdv A outer s H vs Q E hr h => ?_)
  · unfold spContr at h
    obtain ⟨a, rfl, _⟩ := h
    rfl
  · unfold spContr at h
    obtain ⟨a, rfl, q⟩ := h
    refine ⟨_, (pss_one (ps_ret (pe_tup pa_nil))), ?_⟩
    walk_at "rd"
    exact ⟨sz (by decide), fun r nr => q r nr⟩
@[irreducible] def spNorm (K : PySem.W.Frag) : Sp := fun vs H Q _ => ∃ (a T pn pc : Addr) (ns : List Str) (xs : List V) (cs : List Cl), vs = [.ref a, .ref T] ∧ SqT K H T [.ref pn, .ref pc] ∧ SqT K H pn (ns.map V.str) ∧ SqT K H pc xs ∧ DpAll K H xs (cs.map clD) ∧ ns.length ≤ 5 ∧ (∀ z ∈ ns, PyData.strOk z = true) ∧ Asc ns ∧ (∀ c ∈ cs, Vc ns c) ∧ cs.length ≤ 1000 ∧
  ∀ (R pr : Addr) (us : List V) (L : List Cl) (H' : Hp), Same H H' → SqT K H' R [.ref pn, .ref pr] → SqT K H' pr us → DpAll K H' us ((L.mergeSort cle).map clD) → L.Nodup → (∀ c, c ∈ L ↔ Prime ns cs c) → L.length ≤ 243 → Q (.ref R) H'
theorem ok_normal {f : Addr} {fd : FuncData} (F : Fun K "normal" "Bits.normal" s_Bits_normal f fd) (m_tuple : mg "tuple" = none) (m_sorted : mg "sorted" = none) (m_list : mg "list" = none) (C_failing : Cal P w K mg base "failing" 7 ["names", "clauses"] (spFail K 6)) (C_prime_clauses : Cal P w K mg base "prime_clauses" 7 ["names", "fails"] (spPr K 6)) :
    FnOk P w K mg base CX0 8 f fd ["self", "theory"] (spNorm K) := by
  refine F.ok sc_Bits_normal (fun vs H Q E h => ?_) (fun cdv A outer s H vs Q E hr h => ?_)
  · unfold spNorm at h
    obtain ⟨a, T, pn, pc, ns, xs, cs, rfl, _⟩ := h
    rfl
  · unfold spNorm at h
    obtain ⟨a, T, pn, pc, ns, xs, cs, rfl, hT, hpn, hpc, dcs, l5, okn, asc, vc, cl, q⟩ := h
    have xl : xs.length = cs.length := by rw [da_len dcs, List.length_map]
    refine ⟨_, (pss_cons (ps_asg (pv 1) (pg_tup rfl (pgs_cons (pg_name (i := 2) sc_Bits_normal.nd rfl (Or.inl rfl)) (pgs_cons (pg_name (i := 3) sc_Bits_normal.nd rfl (Or.inl rfl)) pgs_nil))))
    (pss_one (ps_ret (pe_tup (pa_cons (pv 2) (pa_cons (pe_callTy (T := "tuple") call_tuple_of (by rfl) m_tuple (by decide +kernel) (pa_cons (pe_callB (id := "sorted") (Sd.cr_sortT (room hr)) (by rfl) m_sorted (by decide +kernel) (pa_cons (pe_cal C_prime_clauses (hr.mono (by decide)) (pa_cons (pv 2) (pa_cons (pe_cal C_failing (hr.mono (by decide)) (pa_cons (pv 2) (pa_cons (pe_callTy (T := "list") call_list_of (by rfl) m_list (by decide +kernel) (pa_cons (pv 3) pa_nil)) pa_nil))) pa_nil))) pa_nil)) pa_nil)) pa_nil)))))), ?_⟩
    walk_at "rd"
    refine ⟨_, _, rfl, hT, rfl, _, _, rfl, _, _, rfl, rfl, ?_⟩
    walk_at "rd"
    refine ⟨pc, xs, rfl, .inr hpc, fun l1 nl1 => ?_⟩
    have s1 := same_new nl1 (o := .lst xs)
    have hl1 := upd_same (H := H) (a := l1) (o := .lst xs)
    generalize upd H l1 (.lst xs) = H1 at s1 hl1 ⊢
    walk_at "rd"
    refine ⟨pn, l1, ns, xs, cs, rfl, Bx.Same.tup s1 hpn, by omega, l5, okn, sq hl1, dpAll_same s1 dcs, vc, cl, fun M H2 s2 fm => ?_⟩
    have s02 := s1.trans s2
    walk_at "rd"
    refine ⟨pn, ns, M, rfl, Bx.Same.tup s02 hpn, by omega, l5, okn, asc, fm.1, fun r us L H3 s3 nr hr3 dL nd mem ll => ?_⟩
    have s03 := s02.trans s3
    have l243 : L.length ≤ 243 := Nat.le_trans ll (Nat.pow_le_pow_right (n := 3) (i := ns.length) (j := 5) (by decide) l5)
    walk_at "rd"
    unfold tNil
    dsimp only
    refine sort_cls (sq hr3) dL (by omega) fun ys p np dy => ?_
    have s4 := same_new np (o := .lst ys)
    have hp := upd_same (H := H3) (a := p) (o := .lst ys)
    generalize upd H3 p (.lst ys) = H4 at s4 hp ⊢
    walk_at "rd"
    refine ⟨p, ys, rfl, .inl ⟨sq hp, fun pr npr => ?_⟩⟩
    have s5 := same_new npr (o := .tup ys)
    have hpr := upd_same (H := H4) (a := pr) (o := .tup ys)
    generalize upd H4 pr (.tup ys) = H5 at s5 hpr ⊢
    walk_at "rd"
    refine ⟨sz (by show 2 ≤ 100000; decide), fun R nR => ?_⟩
    have s6 := same_new nR (o := .tup [V.ref pn, .ref pr])
    exact q R pr ys L _ (s03.trans (s4.trans (s5.trans s6))) (sqt upd_same) (Bx.Same.tup s6 (sqt hpr)) (dpAll_same (s4.trans (s5.trans s6)) dy) nd (fun c => by rw [mem c, prime_fm fm]) l243
@[irreducible] def spPin (K : PySem.W.Frag) : Sp := fun vs H Q _ => ∃ (a pn d : Addr) (ns : List Str) (kvs : List (Key × V)) (f : Str → Int), vs = [.ref a, .ref pn, .ref d] ∧ SqT K H pn (ns.map V.str) ∧ H d = some (.dK kvs) ∧ (∀ z ∈ ns, valV kvs (.inr z) = some (.int (f z))) ∧ ns.length ≤ 100 ∧
  ∀ (R pr : Addr) (us : List V) (H' : Hp), Same H H' → SqT K H' R [.ref pn, .ref pr] → SqT K H' pr us → DpAll K H' us ((ns.map fun z => [(z, f z)]).map clD) → Q (.ref R) H'
theorem ok_pin {f : Addr} {fd : FuncData} (F : Fun K "pin" "Bits.pin" s_Bits_pin f fd) (m_tuple : mg "tuple" = none) : FnOk P w K mg base CX0 1 f fd ["self", "names", "assignment"] (spPin K) := by
  refine F.ok sc_Bits_pin (fun vs H Q E h => ?_) (fun cdv A outer s H vs Q E hr h => ?_)
  · unfold spPin at h
    obtain ⟨a, pn, d, ns, kvs, g, rfl, _⟩ := h
    rfl
  · unfold spPin at h
    obtain ⟨a, pn, d, ns, kvs, g, rfl, hpn, hd, val, l1, q⟩ := h
    have hu := hu_of hr
    refine ⟨_, (pss_one (ps_ret (pe_tup (pa_cons (pv 1) (pa_cons (pe_callTy (T := "tuple") call_tuple_of (by rfl) m_tuple (by decide +kernel) (pa_cons (pe_lc (own := [("name", 3)]) (tt := tYes) rfl sc_Bits_pin.nd (pi_tup (pv 1)) (blkOk_by (N := n_Bits_pin) (sc := defScope s_Bits_pin) (by decide +kernel)) (fun _ _ _ _ _ => pg_name (i := 3) sc_Bits_pin.nd rfl (Or.inl rfl)) (fun _ _ _ _ _ => pts_nil) (fun _ _ _ _ _ => (pe_tup (pa_cons (pe_tup (pa_cons (pv 3) (pa_cons (pe_dget hu (pv 2) (pv 3) (fun _ _ => rfl)) pa_nil))) pa_nil)))) pa_nil)) pa_nil))))), ?_⟩
    walk_at "rd"
    refine ⟨⟨_, hpn⟩, fun D hD => ?_⟩
    refine lc_it walk_tup (fun i H' => Same H H' ∧ ∃ us, H' D = some (.lst us) ∧ DpAll K (mn H' [D]) us (((ns.take i).map fun z => [(z, g z)]).map clD)) ⟨same_new hD, [], upd_same, .nil⟩ (fun i H' _ h => Bx.Same.tup h.1 hpn) ?_ ?_
    · rintro i x H2a H2 hi ⟨s2, us, hM, hda⟩ ⟨rfl, hx⟩
      obtain ⟨z, hz, rfl⟩ := at_map hx
      refine ⟨rfl, ?_⟩
      walk_at "rd"
      refine ⟨d, .int (g z), rfl, by rw [← val z (List.mem_of_getElem? hz)]; exact DGet.k (k := .inr z) (s2 _ _ hd), ?_⟩
      walk_at "rd"
      refine ⟨sz (by show 2 ≤ 100000; decide), fun T nT => ?_⟩
      have s3 := same_new nT (o := .tup [V.str z, .int (g z)])
      have hT := upd_same (H := H2) (a := T) (o := .tup [V.str z, .int (g z)])
      generalize upd H2 T (.tup [V.str z, .int (g z)]) = H3 at s3 hT ⊢
      walk_at "rd"
      refine ⟨sz (by show 1 ≤ 100000; decide), fun N nN => ?_⟩
      have s4 := same_new nN (o := .tup [V.ref T])
      have hN := upd_same (H := H3) (a := N) (o := .tup [V.ref T])
      have hM4 := (s3.trans s4) _ _ hM
      have TD : T ≠ D := fun e => by
        rw [e, hM] at nT
        cases nT
      have ND : N ≠ D := fun e => by
        rw [e, s3 _ _ hM] at nN
        cases nN
      generalize upd H3 N (.tup [V.ref T]) = H4 at s4 hN hM4 ⊢
      have ul : us.length ≤ ns.length := by
        rw [da_len hda, List.length_map, List.length_map]
        exact List.length_take_le' i ns
      refine ⟨us, hM4, szl (by omega), same_at hD (s2.trans (s3.trans s4)), us ++ [.ref N], upd_same, ?_⟩
      rw [mn_upd (by simp), List.take_add_one, hz, List.map_append, List.map_append]
      exact da_app (dpAll_same (mn_all (s3.trans s4)) hda) (da_one (.tup (sqt (mn_at (by simp [ND]) hN)) (da_one (dp_lit (l := (z, g z)) (sqt (mn_at (by simp [TD]) (s4 _ _ hT)))))))
    rintro H2 ⟨s2, us, hM, hda⟩
    rw [List.length_map, List.take_length] at hda
    have hda2 := dpAll_same (mn_same (H := H2) (S := [D])) hda
    walk_at "rd"
    refine ⟨D, us, rfl, .inl ⟨sq hM, fun pr npr => ?_⟩⟩
    have s5 := same_new npr (o := .tup us)
    have hpr := upd_same (H := H2) (a := pr) (o := .tup us)
    generalize upd H2 pr (.tup us) = H5 at s5 hpr ⊢
    walk_at "rd"
    refine ⟨sz (by show 2 ≤ 100000; decide), fun R nR => ?_⟩
    have s6 := same_new nR (o := .tup [V.ref pn, .ref pr])
    exact q R pr us _ (s2.trans (s5.trans s6)) (sqt upd_same) (Bx.Same.tup s6 (sqt hpr)) (dpAll_same (s5.trans s6) hda2)
@[irreducible] def spRen (K : PySem.W.Frag) : Sp := fun vs H Q _ => ∃ (a T pn pc d : Addr) (ns : List Str) (xs : List V) (cs : List Cl) (t : Tb), vs = [.ref a, .ref T, .ref d] ∧ SqT K H T [.ref pn, .ref pc] ∧ SqT K H pn (ns.map V.str) ∧ SqT K H pc xs ∧ DpAll K H xs (cs.map clD) ∧ ns.length ≤ 5 ∧ (∀ c ∈ cs, c.length ≤ 1000) ∧ cs.length ≤ 1000 ∧ H d = some (.dK (tbV t)) ∧
  ∀ (R ap ar : Addr) (ys : List Str) (us : List V) (H' : Hp), Same H H' → SqT K H' R [.ref ap, .ref ar] → SqT K H' ap (ys.map V.str) → sortedS ys = true → ys.Nodup → (∀ x, x ∈ ys ↔ x ∈ ns.map (rn t)) → SqT K H' ar us → DpAll K H' us ((cs.map (rnC t)).map clD) → Q (.ref R) H'
set_option maxHeartbeats 1000000 in
theorem ok_rename {f : Addr} {fd : FuncData} (F : Fun K "rename" "Bits.rename" s_Bits_rename f fd) (m_tuple : mg "tuple" = none) (m_sorted : mg "sorted" = none) (C_merge_names : CalR P w K mg base "merge_names" 1 (spMerge K)) (C_replace_names : Cal P w K mg base "replace_names" 1 ["names", "table"] (spRepl K)) : FnOk P w K mg base CX0 2 f fd ["self", "theory", "table"] (spRen K) := by
  refine F.ok sc_Bits_rename (fun vs H Q E h => ?_) (fun cdv A outer s H vs Q E hr h => ?_)
  · unfold spRen at h
    obtain ⟨a, T, pn, pc, d, ns, xs, cs, t, rfl, _⟩ := h
    rfl
  · unfold spRen at h
    obtain ⟨a, T, pn, pc, d, ns, xs, cs, t, rfl, hT, hpn, hpc, dcs, l5, cl, csl, hd, q⟩ := h
    have hu := hu_of hr
    have xl : xs.length = cs.length := by rw [da_len dcs, List.length_map]
    refine ⟨_, (pss_cons (ps_asg (pv 1) (pg_tup rfl (pgs_cons (pg_name (i := 4) sc_Bits_rename.nd rfl (Or.inl rfl)) (pgs_cons (pg_name (i := 5) sc_Bits_rename.nd rfl (Or.inl rfl)) pgs_nil))))
    (pss_cons (ps_setLc (i := 3) (own := [("clause", 6)]) (tt := tYes) rfl sc_Bits_rename.nd rfl rfl (sw_true rfl rfl rfl (by decide +kernel)) (pi_tup (pv 5)) (blkOk_by (N := n_Bits_rename) (sc := defScope s_Bits_rename) (by decide +kernel)) (fun _ _ _ _ _ => pg_name (i := 6) sc_Bits_rename.nd rfl (Or.inl rfl)) (fun _ _ _ _ _ => pts_nil) (fun _ _ _ _ _ => (pe_callB (id := "sorted") (cr_sortTK (K := K) rfl (room hr)) (by rfl) m_sorted (by decide +kernel) (pa_cons (pe_lc (own := [("name", 7), ("sign", 8)]) (wi := iTup K (tVar 6)) (tt := tYes) rfl sc_Bits_rename.nd (pi_tup (pv 6)) (Nx.blkOk_nest (N := n_Bits_rename) (sc := defScope s_Bits_rename) rfl (by decide +kernel)) (fun _ _ _ _ _ => pg_tupK (K := K) (n := 2) rfl rfl (pgs_cons (pg_name (i := 7) sc_Bits_rename.nd rfl (Or.inl rfl)) (pgs_cons (pg_name (i := 8) sc_Bits_rename.nd rfl (Or.inl rfl)) pgs_nil))) (fun _ _ _ _ _ => pts_nil) (fun _ _ _ _ _ => (pe_tup (pa_cons (pe_dget2 hu (pv 2) (pv 7) (pv 7) ⟨rfl, rfl, rfl, rfl⟩) (pa_cons (pv 8) pa_nil))))) pa_nil))))
    (pss_one (ps_ret (pe_tup (pa_cons (pe_calR C_merge_names (hr.mono (by decide)) (pa_cons (pe_cal C_replace_names (hr.mono (by decide)) (pa_cons (pv 4) (pa_cons (pv 2) pa_nil))) pa_nil)) (pa_cons (pe_callTy (T := "tuple") call_tuple_of (by rfl) m_tuple (by decide +kernel) (pa_cons (pe_lc (own := [("clause", 6)]) (tt := tYes) rfl sc_Bits_rename.nd (pi_list (pv 3)) (blkOk_by (N := n_Bits_rename) (sc := defScope s_Bits_rename) (by decide +kernel)) (fun _ _ _ _ _ => pg_name (i := 6) sc_Bits_rename.nd rfl (Or.inl rfl)) (fun _ _ _ _ _ => pts_nil) (fun _ _ _ _ _ => (pe_callTy (T := "tuple") (call_tuple_ofK (K := K) rfl) (by rfl) m_tuple (by decide +kernel) (pa_cons (pv 6) pa_nil)))) pa_nil)) pa_nil))))))), ?_⟩
    walk_at "rd"
    refine ⟨_, _, rfl, hT, rfl, _, _, rfl, _, _, rfl, rfl, ?_⟩
    walk_at "rd"
    refine ⟨⟨_, hpc⟩, fun D hD => ?_⟩
    refine lc_it walk_tup (fun i H' => Same H H' ∧ ∃ us, H' D = some (.lst us) ∧ DpAll K (mn H' [D]) us ((cs.take i).map fun c => .list ((rnC t c).map litD))) ⟨same_new hD, [], upd_same, .nil⟩ (fun i H' _ h => Bx.Same.tup h.1 hpc) ?_ ?_
    · rintro i x H2a H2 hi ⟨s2, us, hM, hda⟩ ⟨rfl, hx⟩
      obtain ⟨c, hc, dc⟩ := da_atM dcs hx
      obtain ⟨cq, ys, rfl, hcq, dcl⟩ := cl_dp dc
      have cl1 := cl c (List.mem_of_getElem? hc)
      have yl : ys.length = c.length := by rw [da_len dcl, List.length_map]
      have c2 := Bx.Same.tup s2 hcq
      have d2 := dpAll_same s2 dcl
      refine ⟨rfl, ?_⟩
      walk_at "rd"
      refine ⟨⟨_, c2⟩, fun D3 hD3 => ?_⟩
      refine lc_it walk_tup (fun j H' => Same H2 H' ∧ ∃ ws, H' D3 = some (.lst ws) ∧ DpAll K (mn H' [D3]) ws (((c.take j).map (rnL t)).map litD)) ⟨same_new hD3, [], upd_same, .nil⟩ (fun j H' _ h => Bx.Same.tup h.1 c2) ?_ ?_
      · rintro j x H3a H3 hj ⟨s3, ws, hW, hdw⟩ ⟨rfl, hx2⟩
        obtain ⟨l, hl0, dl⟩ := da_atM d2 hx2
        obtain ⟨lq, rfl, hlq⟩ := lit_dp dl
        refine ⟨_, _, rfl, Bx.Same.tup s3 hlq, rfl, _, _, rfl, _, _, rfl, rfl, ?_⟩
        walk_at "rd"
        refine ⟨.inl ⟨_, .inl ((s2.trans s3) _ _ hd)⟩, ?_⟩
        walk_at "rd"
        refine ⟨_, DGet.k (k := .inr l.1) ((s2.trans s3) _ _ hd), ?_⟩
        rw [val_tb]
        walk_at "rd"
        refine ⟨sz (by show 2 ≤ 100000; decide), fun T nT => ?_⟩
        have s4 := same_new nT (o := .tup [V.str (rn t l.1), .int l.2])
        have hT4 := upd_same (H := H3) (a := T) (o := .tup [V.str (rn t l.1), .int l.2])
        have hW4 := s4 _ _ hW
        have TD : T ≠ D3 := fun e => by
          rw [e, hW] at nT
          cases nT
        have wl : ws.length ≤ c.length := by
          rw [da_len hdw, List.length_map, List.length_map]
          exact List.length_take_le' j c
        show ∃ acc, (upd H3 T (.tup [V.str (rn t l.1), .int l.2])) D3 = some (.lst acc) ∧ _
        generalize upd H3 T (.tup [V.str (rn t l.1), .int l.2]) = H4 at s4 hT4 hW4 ⊢
        refine ⟨ws, hW4, szl (by omega), same_at hD3 (s3.trans s4), ws ++ [.ref T], upd_same, ?_⟩
        rw [mn_upd (by simp), List.take_add_one, hl0, List.map_append, List.map_append]
        exact da_app (dpAll_same (mn_all s4) hdw) (da_one (dp_lit (l := rnL t l) (sqt (mn_at (by simp [TD]) hT4))))
      rintro H3 ⟨s3, ws, hW, hdw⟩
      rw [yl, List.take_length] at hdw
      have hdw2 := dpAll_same (mn_same (H := H3) (S := [D3])) hdw
      walk_at "rd"
      unfold tNil
      dsimp only
      refine sort_lits (sq hW) hdw2 (by rw [List.length_map]; omega) fun zs p np dy => ?_
      have s4 := same_new np (o := .lst zs)
      have hp := upd_same (H := H3) (a := p) (o := .lst zs)
      have hM3 := s3 _ _ hM
      have hM4 := s4 _ _ hM3
      have pD : p ≠ D := fun e => by
        rw [e, hM3] at np
        cases np
      show ∃ acc, (upd H3 p (.lst zs)) D = some (.lst acc) ∧ _
      generalize upd H3 p (.lst zs) = H4 at s4 hp hM4 ⊢
      have ul : us.length ≤ cs.length := by
        rw [da_len hda, List.length_map]
        exact List.length_take_le' i cs
      refine ⟨us, hM4, szl (by omega), same_at hD (s2.trans (s3.trans s4)), us ++ [.ref p], upd_same, ?_⟩
      rw [mn_upd (by simp), List.take_add_one, hc, List.map_append]
      refine da_app (dpAll_same (mn_all (s3.trans s4)) hda) (da_one ?_)
      exact .lst (sq (mn_at (by simp [pD]) hp)) (da_tk (tk_mn s4 hM4) _ _ (tup_lits _) dy)
    rintro H2 ⟨s2, us, hM, hda⟩
    rw [xl, List.take_length] at hda
    have hda2 := dpAll_same (mn_same (H := H2) (S := [D])) hda
    have ul : us.length = cs.length := by rw [da_len hda2, List.length_map]
    walk_at "rd"
    show spRepl K _ _ _ _
    unfold spRepl
    refine ⟨pn, d, ns, t, rfl, .inr (Bx.Same.tup s2 hpn), s2 _ _ hd, by omega, fun r H3 s3 nr hr3 => ?_⟩
    walk_at "rd"
    refine ⟨[(r, ns.map (rn t))], rfl, fun x hx => ?_, by show 1 ≤ 1000; decide, ?_, fun ya H4 ys s4 nya hya st nd mem => ?_⟩
    · rw [List.mem_singleton.mp hx]
      exact .inl (sq hr3)
    · simp only [List.map_cons, List.map_nil, List.flatten_cons, List.flatten_nil, List.append_nil, List.length_map]
      omega
    have mem2 : ∀ x, x ∈ ys ↔ x ∈ ns.map (rn t) := fun x => by
      rw [mem x]
      simp only [List.map_cons, List.map_nil, List.flatten_cons, List.flatten_nil, List.append_nil]
    have s24 := s3.trans s4
    have hM4 := s24 _ _ hM
    have hda4 := dpAll_same s24 hda2
    walk_at "rd"
    refine ⟨⟨_, sq hM4⟩, fun D4 hD4 => ?_⟩
    refine lc_it walk_list (fun i H' => Same H4 H' ∧ ∃ vs, H' D4 = some (.lst vs) ∧ DpAll K (mn H' [D4]) vs (((cs.take i).map (rnC t)).map clD)) ⟨same_new hD4, [], upd_same, .nil⟩ (fun i H' _ h => sq (h.1 _ _ hM4)) ?_ ?_
    · rintro i x H5a H5 hi ⟨s5, vs, hV, hdv⟩ ⟨rfl, hx⟩
      obtain ⟨c, hc, dc⟩ := da_atM hda4 hx
      cases dc with
      | @lst b zs _ hb dz =>
        refine ⟨rfl, ?_⟩
        walk_at "rd"
        refine ⟨b, zs, rfl, .inl ⟨s5.seq hb, fun N nN => ?_⟩⟩
        have s6 := same_new nN (o := .tup zs)
        have hN := upd_same (H := H5) (a := N) (o := .tup zs)
        have hV6 := s6 _ _ hV
        have ND : N ≠ D4 := fun e => by
          rw [e, hV] at nN
          cases nN
        generalize upd H5 N (.tup zs) = H6 at s6 hN hV6 ⊢
        have vl : vs.length ≤ cs.length := by
          rw [da_len hdv, List.length_map, List.length_map]
          exact List.length_take_le' i cs
        refine ⟨vs, hV6, szl (by omega), same_at hD4 (s5.trans s6), vs ++ [.ref N], upd_same, ?_⟩
        rw [mn_upd (by simp), List.take_add_one, hc, List.map_append, List.map_append]
        exact da_app (dpAll_same (mn_all s6) hdv) (da_one (.tup (sqt (mn_at (by simp [ND]) hN)) (da_tk (tk_mn (s5.trans s6) hV6) _ _ (tup_lits _) dz)))
    rintro H5 ⟨s5, vs, hV, hdv⟩
    rw [ul, List.take_length] at hdv
    have hdv2 := dpAll_same (mn_same (H := H5) (S := [D4])) hdv
    walk_at "rd"
    refine ⟨D4, vs, rfl, .inl ⟨sq hV, fun ar nar => ?_⟩⟩
    have s6 := same_new nar (o := .tup vs)
    have har := upd_same (H := H5) (a := ar) (o := .tup vs)
    generalize upd H5 ar (.tup vs) = H6 at s6 har ⊢
    walk_at "rd"
    refine ⟨sz (by show 2 ≤ 100000; decide), fun R nR => ?_⟩
    have s7 := same_new nR (o := .tup [V.ref ya, .ref ar])
    have s47 := s5.trans (s6.trans s7)
    exact q R ya ar ys vs _ (s2.trans (s24.trans s47)) (sqt upd_same) (PlT.same s47 hya).sq st nd mem2 (Bx.Same.tup s7 (sqt har)) (dpAll_same (s6.trans s7) hdv2)
end
end K10
namespace K10
local macro_rules | `(tactic| walk_at "rd") => `(tactic| repeat (first | refine ⟨rfl, ?_⟩ | refine ⟨_, rfl, ?_⟩ | refine ⟨_, _, rfl, rfl, ?_⟩ | refine ⟨⟨_, rfl⟩, ?_⟩))
open PySem PySem.Spec PyProof.Rows L2 Bx TL Dx Zx Ow Sup NdefX Px
theorem sub_snoc {ms ns : List Str} {i : Nat} {n : Str} (h : ms.Sublist (ns.take i)) (hn : ns[i]? = some n) : (ms ++ [n]).Sublist (ns.take (i + 1)) := by
  rw [List.take_add_one, hn]
  exact h.append (List.Sublist.refl _)
theorem sub_skip {ms ns : List Str} {i : Nat} (h : ms.Sublist (ns.take i)) : ms.Sublist (ns.take (i + 1)) := by
  rw [List.take_add_one]
  exact h.trans (List.sublist_append_left _ _)
section
variable {P : Program} {w : World} {K : PySem.W.Frag} {mg : Str → Option Value} {base : Heap}
theorem sqt_but {H H' : Hp} {s a : Addr} {xs : List V} (hs : Src H s) (sb : SameBut s H H') (h : SqT K H a xs) : SqT K H' a xs := by
  obtain ⟨n, c, hs⟩ := hs
  rcases h with (h | ⟨u, h⟩) | h
  · exact .inl (.inl (sb _ _ (fun z => by rw [z, hs] at h; cases h) h))
  · exact .inl (.inr ⟨u, sb _ _ (fun z => by rw [z, hs] at h; cases h) h⟩)
  · exact .inr h
theorem tk_but {H H' : Hp} {s : Addr} (hs : Src H s) (sb : SameBut s H H') : Tk K H H' := fun _ _ h => sqt_but hs sb h
/-- the clauses so far -/
def Cs (K : PySem.W.Frag) (src L : Addr) (H H' : Hp) (ns : List Str) (m : Nat) : Prop := SameBut src H H' ∧ Src H' src ∧ ∃ (us : List V) (cs : List Cl), H' L = some (.lst us) ∧ DpAll K H' us (cs.map clD) ∧ cs.length ≤ m ∧ ∀ c ∈ cs, Vc ns c
theorem cs_app {src L : Addr} {H H' : Hp} {ns : List Str} {m : Nat} {us : List V} {cs : List Cl} {v : V} {c : Cl} (nL : H L = none) (nLs : src ≠ L) (s : SameBut src H H') (hA : Src H' src) (hL : H' L = some (.lst us)) (hd : DpAll K H' us (cs.map clD)) (hm : cs.length ≤ m) (vc : ∀ c ∈ cs, Vc ns c) (dv : Dp K H' v (clD c)) (vv : Vc ns c) : Cs K src L H (upd H' L (.lst (us ++ [v]))) ns (m + 1) := by
  have tk := tk_lst (K := K) (o := .lst (us ++ [v])) hL
  refine ⟨but_at nL s, src_upd hA nLs, us ++ [v], cs ++ [c], upd_same, ?_, by rw [List.length_append]; show cs.length + 1 ≤ m + 1; omega, fun x hx => ?_⟩
  · rw [List.map_append]
    exact da_app (da_tk tk _ _ (tup_cls _) hd) (da_one (dp_tk tk _ _ (tup_lits c) dv))
  · rcases List.mem_append.mp hx with h | h
    · exact vc x h
    · rw [List.mem_singleton.mp h]
      exact vv
@[irreducible] def spClauses (K : PySem.W.Frag) : Sp := fun vs H Q _ => ∃ (s na : Addr) (ns : List Str), vs = [.ref s, .ref na] ∧ Src H s ∧ SqT K H na (ns.map V.str) ∧ Asc ns ∧ ns.length ≤ 20 ∧ ∀ (r : Addr) (us : List V) (cs : List Cl) (H' : Hp), SameBut s H H' → Src H' s → H r = none → H' r = some (.lst us) → DpAll K H' us (cs.map clD) → cs.length ≤ 8 → (∀ c ∈ cs, Vc ns c) → Q (.ref r) H'
set_option maxHeartbeats 2000000 in
theorem ok_clauses {f : Addr} {fd : FuncData} (F : Fun K "_law_clauses" "_law_clauses" s__law_clauses f fd) (m_range : mg "range" = none) (m_len : mg "len" = none) (m_tuple : mg "tuple" = none) (C__law_draw : CDraw P w K mg base) : FnOk P w K mg base CX0 2 f fd ["_law_source_here", "_law_names_here"] (spClauses K) := by
  refine F.ok sc__law_clauses (fun vs H Q E h => ?_) (fun cdv A outer s H vs Q E hr h => ?_)
  · unfold spClauses at h
    obtain ⟨s, na, ns, rfl, _⟩ := h
    rfl
  · unfold spClauses at h
    obtain ⟨src, na, ns, rfl, hA, hna, asc, nl, q⟩ := h
    refine ⟨_, (pss_cons (ps_set (i := 2) sc__law_clauses.nd rfl (Or.inl rfl) (pe_lst pa_nil))
    (pss_cons (ps_for PassesOwn.never rfl (pi_range1 (by rfl) m_range (pa_cons (pe_cal C__law_draw (hr.mono (by decide)) (pa_cons (pv 0) (pa_cons pe_int pa_nil))) pa_nil)) (pg_name (i := 3) sc__law_clauses.nd rfl (Or.inl rfl))
      (pss_cons (ps_set (i := 4) sc__law_clauses.nd rfl (Or.inl rfl) (pe_lst pa_nil))
    (pss_cons (ps_for PassesOwn.never rfl (pi_tup (pv 1)) (pg_name (i := 5) sc__law_clauses.nd rfl (Or.inl rfl))
      (pss_cons (ps_set (i := 6) sc__law_clauses.nd rfl (Or.inl rfl) (pe_cal C__law_draw (hr.mono (by decide)) (pa_cons (pv 0) (pa_cons pe_int pa_nil))))
    (pss_one (ps_if (pt_cmpR op_lt (pv 6) pe_int (nomark _))
      (pss_one (ps_expr (pe_bm PySem.F.plainAttrs_list PySem.F.slot_list_append PySem.F.type_list_append mt_append (pv 4) (pa_cons (pe_tup (pa_cons (pv 5) (pa_cons (pv 6) pa_nil))) pa_nil))))
      pss_nil))))
    (pss_one (ps_if (PW.pt (pw_or (pt_cmpR op_gt (pe_callB call_len_seq (by rfl) m_len PySem.boot_len (pa_cons (pv 4) pa_nil)) pe_int (nomark _)) (pw_or1 (pt_cmpR op_eq (pe_cal C__law_draw (hr.mono (by decide)) (pa_cons (pv 0) (pa_cons pe_int pa_nil))) pe_int (nomark _)))))
      (pss_one (ps_expr (pe_bm PySem.F.plainAttrs_list PySem.F.slot_list_append PySem.F.type_list_append mt_append (pv 2) (pa_cons (pe_callTy (T := "tuple") call_tuple_of (by rfl) m_tuple (by decide +kernel) (pa_cons (pv 4) pa_nil)) pa_nil))))
      pss_nil)))))
    (pss_one (ps_ret (pv 2))))), ?_⟩
    walk_at "rd"
    refine ⟨sz (by decide), fun L nL => ?_⟩
    have nLs := src_ne hA nL
    have sL := same_new nL (o := .lst ([] : List V))
    have hL0 := upd_same (H := H) (a := L) (o := .lst ([] : List V))
    walk_at "rd"
    refine draw_of (lim := 8) (src_same hA sL) (by decide) fun r H1 h0 h1 s1 hA1 => ?_
    have c0 : Cs K src L H H1 ns 0 := ⟨but_new nL s1, hA1, [], [], s1 _ _ nLs.symm hL0, .nil, Nat.le_refl _, fun c hc => (by cases hc)⟩
    walk_at "rd"
    refine ⟨by omega, by omega, for_it walk_range (fun i σ H' => ∃ (o3 o4 o5 o6 : Option V), σ = [some (.ref src), some (.ref na), some (.ref L), o3, o4, o5, o6] ∧ Cs K src L H H' ns i)
      ⟨none, none, none, none, rfl, c0⟩ (fun _ _ _ _ _ => trivial) ?_ ?_⟩
    · rintro i x σ H2 H2' hi ⟨o3, o4, o5, o6, rfl, s2, hA2, us, cs, hL2, hd2, hm2, vc2⟩ ⟨rfl, rfl⟩
      have ul : us.length = cs.length := by rw [da_len hd2, List.length_map]
      walk_at "rd"
      refine ⟨sz (by decide), fun M nM => ?_⟩
      have nMs := src_ne hA2 nM
      have sM := same_new nM (o := .lst ([] : List V))
      have hM0 := upd_same (H := H2') (a := M) (o := .lst ([] : List V))
      walk_at "rd"
      refine ⟨⟨_, Bx.Same.tup sM (sqt_but hA s2 hna)⟩, for_it (walk_tup (K := K) (a := na) (xs := ns.map V.str)) (fun j σ H' => ∃ (o3 o4 : Option V) (vs : List V) (ls : Cl), σ = [some (.ref src), some (.ref na), some (.ref L), some (.int (0 + (i : Nat))), some (.ref M), o3, o4] ∧ SameBut src H2' H' ∧ Src H' src ∧ H' M = some (.lst vs) ∧ DpAll K H' vs (ls.map litD) ∧ (ls.map (·.1)).Sublist (ns.take j) ∧ ∀ l ∈ ls, l.2 = 0 ∨ l.2 = 1)
        ⟨o5, o6, [], [], rfl, Bx.Same.but sM, src_upd hA2 nMs, hM0, .nil, List.nil_sublist _, fun l hl => (by cases hl)⟩ (fun j σ H' _ ⟨_, _, _, _, _, s, _⟩ => sqt_but hA2 s (sqt_but hA s2 hna)) ?_ ?_⟩
      · rintro j x σ H3 H3' hj ⟨o3, o4, vs, ls, rfl, s3, hA3, hM3, hd3, sub3, sg3⟩ ⟨rfl, hx⟩
        obtain ⟨n, hn, rfl⟩ := at_map hx
        rw [List.length_map] at hj
        walk_at "rd"
        refine draw_of (lim := 4) hA3 (by decide) fun r4 H4 h4 h5 s4 hA4 => ?_
        have hM4 := s4 _ _ nMs.symm hM3
        have hd4 := da_tk (tk_but hA3 s4) _ _ (tup_lits _) hd3
        walk_at "rd"
        refine ite2 (fun h6 => ?_) (fun h6 => ?_)
        · have h7 : r4 < 2 := of_decide_eq_true h6
          walk_at "rd"
          refine ⟨.inl ⟨rfl, _, sq hM4⟩, ?_⟩
          walk_at "rd"
          refine ⟨sz (by show 2 ≤ 100000; decide), fun T nT => ?_⟩
          have sT := same_new nT (o := .tup [.str n, .int r4])
          have hT := upd_same (H := H4) (a := T) (o := .tup [.str n, .int r4])
          have hA5 := src_same hA4 sT
          have hM5 := sT _ _ hM4
          have hd5 := dpAll_same sT hd4
          have s5 := (s3.trans s4).trans (Bx.Same.but sT)
          generalize upd H4 T (.tup [.str n, .int r4]) = H5 at hT hA5 hM5 hd5 s5 ⊢
          have ll : ls.length ≤ 20 := by
            have z := sub3.length_le
            have z2 := List.length_take_le' j ns
            rw [List.length_map] at z
            omega
          have vl5 : vs.length = ls.length := by rw [da_len hd3, List.length_map]
          refine ⟨M, _, _, rfl, rfl, hM5, szl (by omega), ?_⟩
          have tk := tk_lst (K := K) (o := .lst (vs ++ [.ref T])) hM5
          refine ⟨_, _, vs ++ [.ref T], ls ++ [(n, r4)], rfl, but_at nM s5, src_upd hA5 nMs, upd_same, ?_, ?_, fun l hl => ?_⟩
          · rw [List.map_append]
            exact da_app (da_tk tk _ _ (tup_lits _) hd5) (da_one (dp_tk tk _ _ rfl (dp_lit (l := (n, r4)) (sqt hT))))
          · rw [List.map_append]
            exact sub_snoc sub3 hn
          · rcases List.mem_append.mp hl with h | h
            · exact sg3 l h
            · rw [List.mem_singleton.mp h]
              show r4 = 0 ∨ r4 = 1
              omega
        · walk_at "rd"
          exact ⟨_, _, vs, ls, rfl, s3.trans s4, hA4, hM4, hd4, sub_skip sub3, sg3⟩
      rintro σ H3 ⟨o3, o4, vs, ls, rfl, s3, hA3, hM3, hd3, sub3, sg3⟩
      rw [List.length_map, List.take_length] at sub3
      have up3 : (ls.map (·.1)).Pairwise fun x y => x.cps.toList < y.cps.toList := List.Pairwise.sublist sub3 asc
      have vls : Vc ns ls := ⟨(List.pairwise_map (R := fun x y : Str => x.cps.toList < y.cps.toList) (f := fun l : Lit => l.1)).mp up3, fun l hl => ⟨sub3.subset (List.mem_map.mpr ⟨l, hl, rfl⟩), sg3 l hl⟩⟩
      have hL3 := s3 _ _ nLs.symm hL2
      have hda3 := da_tk (tk_but hA2 s3) _ _ (tup_cls _) hd2
      walk_at "rd"
      refine ⟨M, _, rfl, .inl (sq hM3), ?_⟩
      walk_at "rd"
      have fin : ∀ {Hx : Hp}, SameBut src H2' Hx → Src Hx src → Hx M = some (.lst vs) → DpAll K Hx vs (ls.map litD) → Hx L = some (.lst us) → DpAll K Hx us (cs.map clD) → ∀ t, Hx t = none → Cs K src L H (upd (upd Hx t (.tup vs)) L (.lst (us ++ [.ref t]))) ns (i + 1) ∧ (upd Hx t (.tup vs)) L = some (.lst us) := fun {Hx} sx ax hm dm hl dl t nt => by
        have st := same_new nt (o := .tup vs)
        refine ⟨cs_app nL nLs (s2.trans (sx.trans (Bx.Same.but st))) (src_same ax st) (st _ _ hl) (dpAll_same st dl) hm2 vc2 (.tup (sqt upd_same) (dpAll_same st dm)) vls, st _ _ hl⟩
      refine ite2 (fun h6 => ?_) (fun h6 => ?_)
      · walk_at "rd"
        refine ⟨.inl ⟨rfl, _, sq hL3⟩, ?_⟩
        walk_at "rd"
        refine ⟨M, _, rfl, .inl ⟨sq hM3, fun t nt => ?_⟩⟩
        obtain ⟨f1, f2⟩ := fin s3 hA3 hM3 hd3 hL3 hda3 t nt
        walk_at "rd"
        refine ⟨L, _, _, rfl, rfl, f2, szl (by omega), ?_⟩
        exact ⟨_, _, _, _, rfl, f1⟩
      · walk_at "rd"
        refine draw_of (lim := 6) hA3 (by decide) fun r4 H4 _ _ s4 hA4 => ?_
        have hL4 := s4 _ _ nLs.symm hL3
        have hda4 := da_tk (tk_but hA3 s4) _ _ (tup_cls _) hda3
        have hM4 := s4 _ _ nMs.symm hM3
        have hd4 := da_tk (tk_but hA3 s4) _ _ (tup_lits _) hd3
        walk_at "rd"
        refine ite2 (fun h7 => ?_) (fun h7 => ?_)
        · walk_at "rd"
          refine ⟨.inl ⟨rfl, _, sq hL4⟩, ?_⟩
          walk_at "rd"
          refine ⟨M, _, rfl, .inl ⟨sq hM4, fun t nt => ?_⟩⟩
          obtain ⟨f1, f2⟩ := fin (s3.trans s4) hA4 hM4 hd4 hL4 hda4 t nt
          walk_at "rd"
          refine ⟨L, _, _, rfl, rfl, f2, szl (by omega), ?_⟩
          exact ⟨_, _, _, _, rfl, f1⟩
        · walk_at "rd"
          exact ⟨_, _, _, _, rfl, s2.trans (s3.trans s4), hA4, us, cs, hL4, hda4, by omega, vc2⟩
    · rintro σ H2 ⟨o3, o4, o5, o6, rfl, s2, hA2, us, cs, hL2, hd2, hm2, vc2⟩
      walk_at "rd"
      exact q L us cs _ s2 hA2 nL hL2 hd2 (by omega) vc2
end
end K10
namespace K10
local macro_rules | `(tactic| walk_at "rd") => `(tactic| repeat (first | refine ⟨rfl, ?_⟩ | refine ⟨_, rfl, ?_⟩ | refine ⟨_, _, rfl, rfl, ?_⟩ | refine ⟨⟨_, rfl⟩, ?_⟩))
open PySem PySem.Spec PyProof.Rows L2 Bx TL Dx Zx Ow Sup NdefX Px
/-! ### the same solutions -/
theorem sat_app (xs ys : List Cl) (f : Str → Int) : sat (xs ++ ys) f = (sat xs f && sat ys f) := List.all_append
theorem sat_one (c : Cl) (f : Str → Int) : sat [c] f = hold f c := Bool.and_true _
theorem sat_rev (cs : List Cl) (f : Str → Int) : sat cs.reverse f = sat cs f := List.all_reverse
theorem hold_srt (f : Str → Int) (c : Cl) : hold f (c.mergeSort lle) = hold f c := hold_mem fun l => srt_mem c l
def spl (c : Cl) (n : Str) (v : Int) : Cl := (c ++ [(n, v)]).mergeSort lle
theorem hold_spl (f : Str → Int) (c : Cl) (n : Str) (v : Int) : hold f (spl c n v) = (hold f c || decide (f n = v)) := by
  unfold spl
  rw [hold_srt]
  unfold hold
  rw [List.any_append]
  show (_ || (_ || false)) = _
  rw [Bool.or_false]
theorem sat_spl {f : Str → Int} (b : B01 f) (c : Cl) (n : Str) : sat ([spl c n 1] ++ [spl c n 0]) f = hold f c := by
  rw [sat_app, sat_one, sat_one, hold_spl, hold_spl]
  rcases b n with h | h
  · rw [h]
    cases hold f c <;> rfl
  · rw [h]
    cases hold f c <;> rfl
theorem vc_spl {ns : List Str} {c : Cl} {n : Str} {v : Int} (vc : Vc ns c) (hn : n ∈ ns) (h0 : (n, (0 : Int)) ∉ c) (h1 : (n, (1 : Int)) ∉ c) (hv : v = 0 ∨ v = 1) : Vc ns (spl c n v) := by
  refine ⟨srt_up ?_, fun l hl => ?_⟩
  · rw [List.map_append]
    refine List.nodup_append.mpr ⟨up_nd vc.1, List.nodup_cons.mpr ⟨fun h => (nomatch h), List.nodup_nil⟩, fun a ha b hb e => ?_⟩
    obtain ⟨l, hl, el⟩ := List.mem_map.mp ha
    have eb : b = n := List.mem_singleton.mp hb
    have en : l.1 = n := by rw [el, e, eb]
    rcases (vc.2 l hl).2 with h | h
    · exact h0 (by rw [← en, ← h]; exact hl)
    · exact h1 (by rw [← en, ← h]; exact hl)
  · rcases List.mem_append.mp ((srt_mem _ _).mp hl) with h | h
    · exact vc.2 l h
    · rw [List.mem_singleton.mp h]
      exact ⟨hn, hv⟩
theorem da_rev {K : PySem.W.Frag} {H : Hp} : ∀ {xs : List V} {ds : List PyData}, DpAll K H xs ds → DpAll K H xs.reverse ds.reverse
  | _, _, .nil => .nil
  | _, _, .cons h t => by
    rw [List.reverse_cons, List.reverse_cons]
    exact da_app (da_rev t) (da_one h)
section
variable {P : Program} {w : World} {K : PySem.W.Frag} {mg : Str → Option Value} {base : Heap}
theorem row_cat {H : Hp} {a b t : Addr} {r : Cl} {n : Str} {v : Int} {Q : VK} (ha : Dp K H (.ref a) (clD r)) (hb : SqT K H b [.ref t]) (ht : Dp K H (.ref t) (litD (n, v))) (hl : r.length ≤ 1000) (q : ∀ u H', Same H H' → Dp K H' u (clD (r ++ [(n, v)])) → Q u H') : rCatA K (.ref a) (.ref b) H Q := by
  obtain ⟨a', xs, ea, hx, hd⟩ := dp_tup ha
  cases ea
  have xl : xs.length = r.length := by rw [da_len hd, List.length_map]
  refine ⟨a, b, xs, [.ref t], rfl, rfl, hx, hb, sz (by show xs.length + 1 ≤ 100000; omega), fun e => ?_, fun _ e => (by cases e), fun _ _ p np => ?_⟩
  · have e2 : r = [] := List.length_eq_zero_iff.mp (by rw [← xl, e]; rfl)
    subst e2
    exact q _ _ (Same.refl H) (.tup hb (da_one ht))
  · have sp := same_new np (o := .tup (xs ++ [.ref t]))
    refine q _ _ sp (.tup (sqt upd_same) ?_)
    rw [List.map_append]
    exact da_app (dpAll_same sp hd) (da_one (dp_same sp ht))
/-- what is found so far -/
def Ss (K : PySem.W.Frag) (src L rv : Addr) (xs : List V) (H H' : Hp) (ns : List Str) (cs : List Cl) (m : Nat) : Prop := SameBut src H H' ∧ Src H' src ∧ H' rv = some (.lst xs) ∧ ∃ (us : List V) (ds : List Cl), H' L = some (.lst us) ∧ DpAll K H' us (ds.map clD) ∧ ds.length ≤ m ∧ (∀ c ∈ ds, Vc ns c) ∧ ∀ f, B01 f → sat ds f = sat cs f
def theOthers (ns : List Str) (c : Cl) : List Str := ns.filter fun z => !decide ((z, (0 : Int)) ∈ c) && !decide ((z, (1 : Int)) ∈ c)
@[irreducible] def spSame (K : PySem.W.Frag) : Sp := fun vs H Q _ => ∃ (s na ca : Addr) (ns : List Str) (xs : List V) (cs : List Cl), vs = [.ref s, .ref na, .ref ca] ∧ Src H s ∧ SqT K H na (ns.map V.str) ∧ SqL K H ca xs ∧ DpAll K H xs (cs.map clD) ∧ (∀ z ∈ ns, PyData.strOk z = true) ∧ (∀ c ∈ cs, Vc ns c) ∧ ns.length ≤ 5 ∧ cs.length ≤ 8 ∧
  ∀ (r : Addr) (us : List V) (ds : List Cl) (H' : Hp), SameBut s H H' → Src H' s → H r = none → H' r = some (.lst us) → DpAll K H' us (ds.map clD) → ds.length ≤ 16 → (∀ c ∈ ds, Vc ns c) → (∀ f, B01 f → sat ds f = sat cs f) → Q (.ref r) H'
set_option maxHeartbeats 2000000 in
theorem ok_same {f : Addr} {fd : FuncData} (F : Fun K "_law_same_solutions" "_law_same_solutions" s__law_same_solutions f fd) (m_len : mg "len" = none) (m_tuple : mg "tuple" = none) (m_sorted : mg "sorted" = none) (C__law_draw : CDraw P w K mg base) : FnOk P w K mg base CX0 2 f fd ["_law_source_here", "_law_names_here", "_law_clauses_here"] (spSame K) := by
  refine F.ok sc__law_same_solutions (fun vs H Q E h => ?_) (fun cdv A outer s H vs Q E hr h => ?_)
  · unfold spSame at h
    obtain ⟨s, na, ca, ns, xs, cs, rfl, _⟩ := h
    rfl
  · unfold spSame at h
    obtain ⟨src, na, ca, ns, xs, cs, rfl, hA, hna, hca, dcs, okn, vc, nl, csl, q⟩ := h
    have xl : xs.length = cs.length := by rw [da_len dcs, List.length_map]
    refine ⟨_, (pss_cons (ps_set (i := 3) sc__law_same_solutions.nd rfl (Or.inl rfl) (pe_lst pa_nil))
    (pss_cons (ps_for PassesOwn.never rfl (pi_list (pe_revL (pv 2))) (pg_name (i := 4) sc__law_same_solutions.nd rfl (Or.inr rfl))
      (pss_cons (ps_setLc (i := 5) (own := [("_law_name", 6)]) rfl sc__law_same_solutions.nd rfl rfl (sw_true rfl rfl rfl (by decide +kernel)) (pi_tup (pv 1)) (blkOk_by (N := n__law_same_solutions) (sc := defScope s__law_same_solutions) (by decide +kernel)) (fun _ _ _ _ _ => pg_name (i := 6) sc__law_same_solutions.nd rfl (Or.inl rfl)) (fun _ _ _ _ _ => pts_one (PW.pt (pw_and (pt_cmpR (Sl.op_notInT (K := K) rfl (room hr)) (pe_tup (pa_cons (pv 6) (pa_cons pe_int pa_nil))) (pv 4) (by rfl)) (pw_and1 (pt_cmpR (Sl.op_notInT (K := K) rfl (room hr)) (pe_tup (pa_cons (pv 6) (pa_cons pe_int pa_nil))) (pv 4) (by rfl)))))) (fun _ _ _ _ _ => (pv 6)))
    (pss_one (ps_if (PW.pt (pw_and (pt_cmpR op_gt (pe_callB call_len_seq (by rfl) m_len PySem.boot_len (pa_cons (pv 5) pa_nil)) pe_int (nomark _)) (pw_and1 (pt_cmpR op_eq (pe_cal C__law_draw (hr.mono (by decide)) (pa_cons (pv 0) (pa_cons pe_int pa_nil))) pe_int (nomark _)))))
      (pss_cons (ps_set (i := 6) sc__law_same_solutions.nd rfl (Or.inl rfl) (pe_ix ix_list (pv 5) (pe_cal C__law_draw (hr.mono (by decide)) (pa_cons (pv 0) (pa_cons (pe_callB call_len_seq (by rfl) m_len PySem.boot_len (pa_cons (pv 5) pa_nil)) pa_nil))) (fun _ _ => rfl)))
    (pss_cons (ps_expr (pe_bm PySem.F.plainAttrs_list PySem.F.slot_list_append PySem.F.type_list_append mt_append (pv 3) (pa_cons (pe_callTy (T := "tuple") call_tuple_of (by rfl) m_tuple (by decide +kernel) (pa_cons (pe_callB (id := "sorted") (Sd.cr_sortTT (room hr)) (by rfl) m_sorted (by decide +kernel) (pa_cons (pe_op op_catA (pv 4) (pe_tup (pa_cons (pe_tup (pa_cons (pv 6) (pa_cons pe_int pa_nil))) pa_nil))) pa_nil)) pa_nil)) pa_nil)))
    (pss_one (ps_expr (pe_bm PySem.F.plainAttrs_list PySem.F.slot_list_append PySem.F.type_list_append mt_append (pv 3) (pa_cons (pe_callTy (T := "tuple") call_tuple_of (by rfl) m_tuple (by decide +kernel) (pa_cons (pe_callB (id := "sorted") (Sd.cr_sortTT (room hr)) (by rfl) m_sorted (by decide +kernel) (pa_cons (pe_op op_catA (pv 4) (pe_tup (pa_cons (pe_tup (pa_cons (pv 6) (pa_cons pe_int pa_nil))) pa_nil))) pa_nil)) pa_nil)) pa_nil))))))
      (pss_one (ps_expr (pe_bm PySem.F.plainAttrs_list PySem.F.slot_list_append PySem.F.type_list_append mt_append (pv 3) (pa_cons (pv 4) pa_nil))))))))
    (pss_one (ps_ret (pv 3))))), ?_⟩
    walk_at "rd"
    refine ⟨sz (by decide), fun L nL => ?_⟩
    have nLs := src_ne hA nL
    have sL := same_new nL (o := .lst ([] : List V))
    have hL0 := upd_same (H := H) (a := L) (o := .lst ([] : List V))
    have hA0 := src_same hA sL
    generalize upd H L (.lst []) = H0 at sL hL0 hA0 ⊢
    walk_at "rd"
    refine ⟨ca, xs, rfl, sL.seq hca, fun rv nrv => ?_⟩
    have nrs := src_ne hA0 nrv
    have sv := same_new nrv (o := .lst xs.reverse)
    have hrv := upd_same (H := H0) (a := rv) (o := .lst xs.reverse)
    have hA1 := src_same hA0 sv
    have hL1 := sv _ _ hL0
    have rL : rv ≠ L := fun e => by
      rw [e, hL0] at nrv
      cases nrv
    generalize upd H0 rv (.lst xs.reverse) = H1 at sv hrv hA1 hL1 ⊢
    have s01 := sL.trans sv
    have drv : DpAll K H xs.reverse (cs.reverse.map clD) := by
      rw [List.map_reverse]
      exact da_rev dcs
    walk_at "rd"
    refine ⟨⟨_, sq hrv⟩, for_it walk_list (fun i σ H' => ∃ (o4 o5 o6 : Option V), σ = [some (.ref src), some (.ref na), some (.ref ca), some (.ref L), o4, o5, o6] ∧ Ss K src L rv xs.reverse H H' ns (cs.reverse.take i) (2 * i))
      ⟨none, none, none, rfl, Bx.Same.but s01, hA1, hrv, [], [], hL1, .nil, Nat.le_refl _, fun c hc => (by cases hc), fun f _ => rfl⟩ (fun _ _ _ _ ⟨_, _, _, _, h⟩ => sq h.2.2.1) ?_ ?_⟩
    · rintro i x σ H2a H2 hi ⟨o4, o5, o6, rfl, s2, hA2, hr2, us, ds, hL2, hd2, hm2, vc2, eq2⟩ ⟨rfl, hx⟩
      obtain ⟨c, hc, dc⟩ := da_atM drv hx
      obtain ⟨cq, ys, rfl, hcq, dcl⟩ := cl_dp dc
      have cin : c ∈ cs := List.mem_reverse.mp (List.mem_of_getElem? hc)
      have vcc := vc c cin
      have okc : OkC c := ok_vc okn vcc
      have i8 : i < 8 := by
        rw [List.length_reverse] at hi
        omega
      have ul : us.length = ds.length := by rw [da_len hd2, List.length_map]
      have dc2 : Dp K H2 (.ref cq) (clD c) := dp_tk (tk_but hA s2) _ _ (show tupD (clD c) = true from tup_lits c) dc
      have hna2 := sqt_but hA s2 hna
      have ef : cs.reverse.take (i + 1) = cs.reverse.take i ++ [c] := by
        rw [List.take_add_one, hc]
        rfl
      -- one more clause
      have more : ∀ {Hx : Hp} {es : List Cl} {vs : List V} {c' : Cl} {v : V} {m : Nat}, SameBut src H Hx → Src Hx src → Hx rv = some (.lst xs.reverse) → Hx L = some (.lst vs) → DpAll K Hx vs (es.map clD) → es.length ≤ m → (∀ c ∈ es, Vc ns c) → Dp K Hx v (clD c') → Vc ns c' →
          SameBut src H (upd Hx L (.lst (vs ++ [v]))) ∧ Src (upd Hx L (.lst (vs ++ [v]))) src ∧ (upd Hx L (.lst (vs ++ [v]))) rv = some (.lst xs.reverse) ∧ (upd Hx L (.lst (vs ++ [v]))) L = some (.lst (vs ++ [v])) ∧ DpAll K (upd Hx L (.lst (vs ++ [v]))) (vs ++ [v]) ((es ++ [c']).map clD) ∧ (es ++ [c']).length ≤ m + 1 ∧ ∀ c ∈ es ++ [c'], Vc ns c := by
        intro Hx es vs c' v m sx ax hr hl dl hm ve dv vv
        have tk := tk_lst (K := K) (o := .lst (vs ++ [v])) hl
        refine ⟨but_at nL sx, src_upd ax nLs, by rw [upd_ne rL]; exact hr, upd_same, ?_, by rw [List.length_append]; show es.length + 1 ≤ m + 1; omega, fun y hy => ?_⟩
        · rw [List.map_append]
          exact da_app (da_tk tk _ _ (tup_cls _) dl) (da_one (dp_tk tk _ _ (show tupD (clD c') = true from tup_lits c') dv))
        · rcases List.mem_append.mp hy with h | h
          · exact ve y h
          · rw [List.mem_singleton.mp h]
            exact vv
      walk_at "rd"
      refine ⟨⟨_, hna2⟩, fun D hD => ?_⟩
      refine lc_it walk_tup (fun j H' => Same H2 H' ∧ H' D = some (.lst ((theOthers (ns.take j) c).map V.str))) ⟨same_new hD, upd_same⟩ (fun j H' _ h => Bx.Same.tup h.1 hna2) ?_ ?_
      · rintro j x H3a H3 hj ⟨s3, hM⟩ ⟨rfl, hx2⟩
        obtain ⟨z, hz, rfl⟩ := at_map hx2
        have okz := okn z (List.mem_of_getElem? hz)
        have et : theOthers (ns.take (j + 1)) c = theOthers (ns.take j) c ++ if (!decide ((z, (0 : Int)) ∈ c) && !decide ((z, (1 : Int)) ∈ c)) = true then [z] else [] := by
          unfold theOthers
          rw [List.take_add_one, hz, List.filter_append]
          congr 1
          by_cases m : (!decide ((z, (0 : Int)) ∈ c) && !decide ((z, (1 : Int)) ∈ c)) = true
          · rw [if_pos m]
            exact List.filter_cons_of_pos (p := fun z => !decide ((z, (0 : Int)) ∈ c) && !decide ((z, (1 : Int)) ∈ c)) m
          · rw [if_neg m]
            exact List.filter_cons_of_neg (p := fun z => !decide ((z, (0 : Int)) ∈ c) && !decide ((z, (1 : Int)) ∈ c)) m
        refine ⟨rfl, ?_⟩
        walk_at "rd"
        refine ⟨sz (by show 2 ≤ 100000; decide), fun T nT => ?_⟩
        have s4 := same_new nT (o := .tup [V.str z, .int 0])
        have hT := upd_same (H := H3) (a := T) (o := .tup [V.str z, .int 0])
        generalize upd H3 T (.tup [V.str z, .int 0]) = H4 at s4 hT ⊢
        walk_at "rd"
        refine ⟨litD (z, 0), c.map litD, dp_lit (l := (z, 0)) (sqt hT), dp_same (s3.trans s4) dc2, sh_lit okz, sh_cl okc, ?_⟩
        rw [any_lit]
        refine ⟨_, rfl, ite2 (fun m => ?_) (fun m => ?_)⟩
        · have m0 : (z, (0 : Int)) ∉ c := by simpa using m
          walk_at "rd"
          refine ⟨sz (by show 2 ≤ 100000; decide), fun T2 nT2 => ?_⟩
          have s5 := same_new nT2 (o := .tup [V.str z, .int 1])
          have hT2 := upd_same (H := H4) (a := T2) (o := .tup [V.str z, .int 1])
          generalize upd H4 T2 (.tup [V.str z, .int 1]) = H5 at s5 hT2 ⊢
          have s25 := s3.trans (s4.trans s5)
          walk_at "rd"
          refine ⟨litD (z, 1), c.map litD, dp_lit (l := (z, 1)) (sqt hT2), dp_same s25 dc2, sh_lit okz, sh_cl okc, ?_⟩
          rw [any_lit]
          refine ⟨_, rfl, ite2 (fun mm => ?_) (fun mm => ?_)⟩
          · have m1 : (z, (1 : Int)) ∉ c := by simpa using mm
            walk_at "rd"
            refine ⟨_, (s4.trans s5) _ _ hM, ?_, same_at hD s25, ?_⟩
            · rw [List.length_map]
              have z1 := List.length_filter_le (fun z => !decide ((z, (0 : Int)) ∈ c) && !decide ((z, (1 : Int)) ∈ c)) (ns.take j)
              have z2 := List.length_take_le' j ns
              exact szl (by show (theOthers (ns.take j) c).length < 100000; unfold theOthers; omega)
            · rw [upd_same, et, if_pos (by rw [decide_eq_false m0, decide_eq_false m1]; rfl), List.map_append]
              rfl
          · have m1 : (z, (1 : Int)) ∈ c := by
              by_cases h : (z, (1 : Int)) ∈ c
              · exact h
              · exact absurd (by simpa using h) mm
            refine ⟨s25, ?_⟩
            rw [et, if_neg (by rw [decide_eq_true m1]; simp), List.append_nil]
            exact (s4.trans s5) _ _ hM
        · have m0 : (z, (0 : Int)) ∈ c := by
            by_cases h : (z, (0 : Int)) ∈ c
            · exact h
            · exact absurd (by simpa using h) m
          dsimp only
          rw [if_neg Bool.false_ne_true]
          refine ⟨s3.trans s4, ?_⟩
          rw [et, if_neg (by rw [decide_eq_true m0]; simp), List.append_nil]
          exact s4 _ _ hM
      rintro H3 ⟨s3, hM⟩
      rw [List.length_map, List.take_length] at hM
      have oth : ∀ z, z ∈ theOthers ns c ↔ z ∈ ns ∧ (z, (0 : Int)) ∉ c ∧ (z, (1 : Int)) ∉ c := fun z => by
        unfold theOthers
        rw [List.mem_filter]
        simp
      have ol : (theOthers ns c).length ≤ 5 := Nat.le_trans (List.length_filter_le _ _) nl
      generalize theOthers ns c = os at hM oth ol
      have s03 := s2.trans (Bx.Same.but s3)
      have hA3 := src_same hA2 s3
      have hd3 := dpAll_same s3 hd2
      have keep : ∀ {Hx : Hp}, SameBut src H3 Hx → Src Hx src → Ss K src L rv xs.reverse H (upd Hx L (.lst (us ++ [.ref cq]))) ns (cs.reverse.take (i + 1)) (2 * (i + 1)) ∧ Hx L = some (.lst us) := fun {Hx} sx ax => by
        have hl := sx _ _ nLs.symm (s3 _ _ hL2)
        have tk := tk_but (K := K) hA3 sx
        have z := more (s03.trans sx) ax (sx _ _ nrs.symm (s3 _ _ hr2)) hl (da_tk tk _ _ (tup_cls _) hd3) hm2 vc2 (dp_tk tk _ _ (show tupD (clD c) = true from tup_lits c) (dp_same s3 dc2)) vcc
        refine ⟨⟨z.1, z.2.1, z.2.2.1, _, _, z.2.2.2.1, z.2.2.2.2.1, by have := z.2.2.2.2.2.1; omega, z.2.2.2.2.2.2, fun f b => ?_⟩, hl⟩
        rw [ef, sat_app, sat_app, eq2 f b]
      walk_at "rd"
      refine ⟨D, _, rfl, .inl (sq hM), ?_⟩
      walk_at "rd"
      refine ite2 (fun h6 => ?_) (fun h6 => ?_)
      · have o0 : 0 < os.length := by
          have z1 : (0 : Int) < ((os.map V.str).length : Nat) := of_decide_eq_true h6
          rw [List.length_map] at z1
          omega
        walk_at "rd"
        refine draw_of (lim := 2) hA3 (by decide) fun r4 H4 _ _ s4 hA4 => ?_
        have nDs : src ≠ D := fun e => by
          obtain ⟨_, _, h⟩ := hA2
          rw [e, hD] at h
          cases h
        have hM4 := s4 _ _ nDs.symm hM
        walk_at "rd"
        refine ite2 (fun h7 => ?_) (fun h7 => ?_)
        · walk_at "rd"
          refine ⟨D, _, rfl, .inl (sq hM4), ?_⟩
          rw [List.length_map]
          refine draw_of (lim := (os.length : Nat)) hA4 (by omega) fun r5 H5 h4 h5 s5 hA5 => ?_
          obtain ⟨m5, rfl⟩ := Int.eq_ofNat_of_zero_le h4
          have hm5 : m5 < os.length := by omega
          have hM5 := s5 _ _ nDs.symm hM4
          refine ⟨_, _, _, _, rfl, rfl, sq hM5, atI_nat (j := m5) (by rw [List.getElem?_map, List.getElem?_eq_getElem hm5]; rfl), ?_⟩
          have yo := (oth os[m5]).mp (List.getElem_mem hm5)
          generalize os[m5] = y at yo ⊢
          have s45 := s4.trans s5
          have s05 := s03.trans s45
          have tk5 := tk_but (K := K) hA3 s45
          have hl5 := s45 _ _ nLs.symm (s3 _ _ hL2)
          have hr1x := s45 _ _ nrs.symm (s3 _ _ hr2)
          have hd5 := da_tk tk5 _ _ (tup_cls _) hd3
          have dcx1 := dp_tk tk5 _ _ (show tupD (clD c) = true from tup_lits c) (dp_same s3 dc2)
          have cl5 := vc_len vcc
          walk_at "rd"
          refine ⟨.inl ⟨rfl, _, sq hl5⟩, ?_⟩
          walk_at "rd"
          refine ⟨sz (by show 2 ≤ 100000; decide), fun T1 nT1 => ?_⟩
          have sa1 := same_new nT1 (o := .tup [V.str y, .int 1])
          have hT1 := upd_same (H := H5) (a := T1) (o := .tup [V.str y, .int 1])
          generalize upd H5 T1 (.tup [V.str y, .int 1]) = Ha1 at sa1 hT1 ⊢
          refine ⟨sz (by show 1 ≤ 100000; decide), fun U1 nU1 => ?_⟩
          have sb1 := same_new nU1 (o := .tup [V.ref T1])
          have hU1 := upd_same (H := Ha1) (a := U1) (o := .tup [V.ref T1])
          generalize upd Ha1 U1 (.tup [V.ref T1]) = Hb1 at sb1 hU1 ⊢
          have sab1 := sa1.trans sb1
          refine row_cat (n := y) (v := 1) (r := c) (dp_same sab1 dcx1) (sqt hU1) (dp_same sb1 (dp_lit (l := (y, 1)) (sqt hT1))) (by omega) fun u1 Hc1 sc1 du1 => ?_
          obtain ⟨b1, zs1, rfl, hb1, db1⟩ := dp_tup du1
          unfold tNil
          dsimp only
          refine sort_litsT hb1 db1 (by rw [List.length_append]; show c.length + 1 ≤ 100000; omega) fun ws1 p1 np1 dp1 => ?_
          have sd1 := same_new np1 (o := .lst ws1)
          have hp1 := upd_same (H := Hc1) (a := p1) (o := .lst ws1)
          generalize upd Hc1 p1 (.lst ws1) = Hd1 at sd1 hp1 ⊢
          walk_at "rd"
          refine ⟨p1, ws1, rfl, .inl ⟨sq hp1, fun t1 nt1 => ?_⟩⟩
          have se1 := same_new nt1 (o := .tup ws1)
          have ht1 := upd_same (H := Hd1) (a := t1) (o := .tup ws1)
          generalize upd Hd1 t1 (.tup ws1) = He1 at se1 ht1 ⊢
          have sx1 := sab1.trans (sc1.trans (sd1.trans se1))
          have dv1 : Dp K He1 (.ref t1) (clD (spl c y 1)) := .tup (sqt ht1) (dpAll_same (sd1.trans se1) dp1)
          have z1 := more (s05.trans (Bx.Same.but sx1)) (src_same hA5 sx1) (sx1 _ _ hr1x) (sx1 _ _ hl5) (dpAll_same sx1 hd5) hm2 vc2 dv1 (vc_spl vcc yo.1 yo.2.1 yo.2.2 (.inr rfl))
          refine ⟨L, _, _, rfl, rfl, sx1 _ _ hl5, szl (by omega), ?_⟩
          have hl6 := z1.2.2.2.1
          have hr2x := z1.2.2.1
          have dcx2 : Dp K (upd He1 L (.lst (us ++ [.ref t1]))) (.ref cq) (clD c) := dp_tk (tk_lst (sx1 _ _ hl5)) _ _ (show tupD (clD c) = true from tup_lits c) (dp_same sx1 dcx1)
          generalize upd He1 L (.lst (us ++ [.ref t1])) = H6 at z1 hl6 hr2x dcx2 ⊢
          walk_at "rd"
          refine ⟨.inl ⟨rfl, _, sq hl6⟩, ?_⟩
          walk_at "rd"
          refine ⟨sz (by show 2 ≤ 100000; decide), fun T2 nT2 => ?_⟩
          have sa2 := same_new nT2 (o := .tup [V.str y, .int 0])
          have hT2 := upd_same (H := H6) (a := T2) (o := .tup [V.str y, .int 0])
          generalize upd H6 T2 (.tup [V.str y, .int 0]) = Ha2 at sa2 hT2 ⊢
          refine ⟨sz (by show 1 ≤ 100000; decide), fun U2 nU2 => ?_⟩
          have sb2 := same_new nU2 (o := .tup [V.ref T2])
          have hU2 := upd_same (H := Ha2) (a := U2) (o := .tup [V.ref T2])
          generalize upd Ha2 U2 (.tup [V.ref T2]) = Hb2 at sb2 hU2 ⊢
          have sab2 := sa2.trans sb2
          refine row_cat (n := y) (v := 0) (r := c) (dp_same sab2 dcx2) (sqt hU2) (dp_same sb2 (dp_lit (l := (y, 0)) (sqt hT2))) (by omega) fun u2 Hc2 sc2 du2 => ?_
          obtain ⟨b2, zs2, rfl, hb2, db2⟩ := dp_tup du2
          refine sort_litsT hb2 db2 (by rw [List.length_append]; show c.length + 1 ≤ 100000; omega) fun ws2 p2 np2 dp2 => ?_
          have sd2 := same_new np2 (o := .lst ws2)
          have hp2 := upd_same (H := Hc2) (a := p2) (o := .lst ws2)
          generalize upd Hc2 p2 (.lst ws2) = Hd2 at sd2 hp2 ⊢
          walk_at "rd"
          refine ⟨p2, ws2, rfl, .inl ⟨sq hp2, fun t2 nt2 => ?_⟩⟩
          have se2 := same_new nt2 (o := .tup ws2)
          have ht2 := upd_same (H := Hd2) (a := t2) (o := .tup ws2)
          generalize upd Hd2 t2 (.tup ws2) = He2 at se2 ht2 ⊢
          have sx2 := sab2.trans (sc2.trans (sd2.trans se2))
          have dv2 : Dp K He2 (.ref t2) (clD (spl c y 0)) := .tup (sqt ht2) (dpAll_same (sd2.trans se2) dp2)
          have z2 := more (z1.1.trans (Bx.Same.but sx2)) (src_same z1.2.1 sx2) (sx2 _ _ hr2x) (sx2 _ _ hl6) (dpAll_same sx2 z1.2.2.2.2.1) z1.2.2.2.2.2.1 z1.2.2.2.2.2.2 dv2 (vc_spl vcc yo.1 yo.2.1 yo.2.2 (.inl rfl))
          refine ⟨L, _, _, rfl, rfl, sx2 _ _ hl6, szl (by rw [List.length_append]; show us.length + 1 < 100000; omega), ?_⟩
          refine ⟨_, _, _, rfl, z2.1, z2.2.1, z2.2.2.1, _, _, z2.2.2.2.1, z2.2.2.2.2.1, by have := z2.2.2.2.2.2.1; omega, z2.2.2.2.2.2.2, fun f b => ?_⟩
          rw [List.append_assoc, sat_app, sat_spl b, ef, sat_app, sat_one, eq2 f b]
        · walk_at "rd"
          obtain ⟨k1, k2⟩ := keep s4 hA4
          refine ⟨.inl ⟨rfl, _, sq k2⟩, ?_⟩
          walk_at "rd"
          refine ⟨L, _, _, rfl, rfl, k2, szl (by omega), ?_⟩
          exact ⟨_, _, _, rfl, k1⟩
      · walk_at "rd"
        obtain ⟨k1, k2⟩ := keep (SameBut.refl _ _) hA3
        refine ⟨.inl ⟨rfl, _, sq k2⟩, ?_⟩
        walk_at "rd"
        refine ⟨L, _, _, rfl, rfl, k2, szl (by omega), ?_⟩
        exact ⟨_, _, _, rfl, k1⟩
    · rintro σ H2 ⟨o4, o5, o6, rfl, s2, hA2, hr2, us, ds, hL2, hd2, hm2, vc2, eq2⟩
      walk_at "rd"
      refine q L us ds _ s2 hA2 nL hL2 hd2 (by rw [List.length_reverse] at hm2; omega) vc2 fun f b => ?_
      rw [eq2 f b, List.length_reverse, xl, ← List.length_reverse (as := cs), List.take_length, sat_rev]
end
end K10
namespace K10
local macro_rules | `(tactic| walk_at "rd") => `(tactic| repeat (first | refine ⟨rfl, ?_⟩ | refine ⟨_, rfl, ?_⟩ | refine ⟨_, _, rfl, rfl, ?_⟩ | refine ⟨⟨_, rfl⟩, ?_⟩))
open PySem PySem.Spec PyProof.Rows L2 Bx TL Dx Zx Ow Sup NdefX Px
def two (n : Str) (r : Cl) : List Cl := [r ++ [(n, 0)], r ++ [(n, 1)]]
def rowsOf (ns : List Str) (acc : List Cl) : List Cl := ns.foldl (fun rs n => rs.flatMap (two n)) acc
def rowF (ns : List Str) (f : Str → Int) : Cl := ns.map fun z => (z, f z)
theorem rowF_put {ns : List Str} {n : Str} (h : n ∉ ns) (f : Str → Int) (v : Int) : rowF ns (put1 f n v) = rowF ns f := List.map_congr_left fun z hz => by
  show (z, put1 f n v z) = (z, f z)
  unfold put1
  rw [if_neg fun (e : z = n) => h (by rw [← e]; exact hz)]
theorem rows_mem : ∀ {ns : List Str} {acc : List Cl} {r : Cl}, ns.Nodup → (r ∈ rowsOf ns acc ↔ ∃ a ∈ acc, ∃ f, B01 f ∧ r = a ++ rowF ns f)
  | [], acc, r, _ => by
    show r ∈ acc ↔ _
    constructor
    · intro h
      exact ⟨r, h, fun _ => 0, fun _ => .inl rfl, (List.append_nil r).symm⟩
    · rintro ⟨a, ha, f, _, rfl⟩
      show a ++ [] ∈ acc
      rw [List.append_nil]
      exact ha
  | n :: ns, acc, r, nd => by
    obtain ⟨nn, nd'⟩ := List.nodup_cons.mp nd
    show r ∈ rowsOf ns (acc.flatMap (two n)) ↔ _
    rw [rows_mem nd']
    constructor
    · rintro ⟨a, ha, f, b, rfl⟩
      obtain ⟨c, hc, hac⟩ := List.mem_flatMap.mp ha
      have key : ∀ v : Int, (v = 0 ∨ v = 1) → a = c ++ [(n, v)] → ∃ a_1 ∈ acc, ∃ f', B01 f' ∧ a ++ rowF ns f = a_1 ++ rowF (n :: ns) f' := fun v hv e => by
        refine ⟨c, hc, put1 f n v, put1_01 b hv, ?_⟩
        show a ++ rowF ns f = c ++ ((n, put1 f n v n) :: rowF ns (put1 f n v))
        rw [put_self, rowF_put nn, e, List.append_assoc]
        rfl
      rcases List.mem_cons.mp hac with e | hac
      · exact key 0 (.inl rfl) e
      · exact key 1 (.inr rfl) (List.mem_singleton.mp hac)
    · rintro ⟨a, ha, f, b, rfl⟩
      refine ⟨a ++ [(n, f n)], List.mem_flatMap.mpr ⟨a, ha, ?_⟩, f, b, ?_⟩
      · rcases b n with e | e
        · rw [e]
          exact List.mem_cons_self ..
        · rw [e]
          exact List.mem_cons_of_mem _ (List.mem_singleton.mpr rfl)
      · rw [List.append_assoc]
        rfl
theorem flat_two (n : Str) : ∀ rs : List Cl, (rs.flatMap (two n)).length = 2 * rs.length
  | [] => rfl
  | r :: rs => by
    rw [List.flatMap_cons, List.length_append, flat_two n rs, List.length_cons]
    show 2 + 2 * rs.length = 2 * (rs.length + 1)
    omega
theorem rows_len : ∀ (ns : List Str) (acc : List Cl), (rowsOf ns acc).length = 2 ^ ns.length * acc.length
  | [], acc => by
    show acc.length = 2 ^ 0 * acc.length
    omega
  | n :: ns, acc => by
    show (rowsOf ns (acc.flatMap (two n))).length = _
    rw [rows_len ns, flat_two, List.length_cons, Nat.pow_succ, Nat.mul_assoc]
theorem rows_snoc {ns : List Str} {i : Nat} {n : Str} (h : ns[i]? = some n) (acc : List Cl) : rowsOf (ns.take (i + 1)) acc = (rowsOf (ns.take i) acc).flatMap (two n) := by
  unfold rowsOf
  rw [List.take_add_one, h, List.foldl_append]
  rfl
def allCl (ns : List Str) (acc : List Cl) : List Cl := ns.foldl (fun cs n => cs ++ cs.flatMap (two n)) acc
theorem all_len : ∀ (ns : List Str) (acc : List Cl), (allCl ns acc).length = 3 ^ ns.length * acc.length
  | [], acc => by
    show acc.length = 3 ^ 0 * acc.length
    omega
  | n :: ns, acc => by
    show (allCl ns (acc ++ acc.flatMap (two n))).length = _
    rw [all_len ns, List.length_append, flat_two, List.length_cons, Nat.pow_succ, Nat.mul_assoc]
    congr 1
    omega
theorem all_snoc {ns : List Str} {i : Nat} {n : Str} (h : ns[i]? = some n) (acc : List Cl) : allCl (ns.take (i + 1)) acc = allCl (ns.take i) acc ++ (allCl (ns.take i) acc).flatMap (two n) := by
  unfold allCl
  rw [List.take_add_one, h, List.foldl_append]
  rfl
theorem all_mem : ∀ {ns : List Str} {acc : List Cl} {c : Cl}, c ∈ allCl ns acc ↔ ∃ a ∈ acc, ∃ d : Cl, c = a ++ d ∧ (d.map (·.1)).Sublist ns ∧ ∀ l ∈ d, l.2 = 0 ∨ l.2 = 1
  | [], acc, c => by
    show c ∈ acc ↔ _
    constructor
    · intro h
      exact ⟨c, h, [], (List.append_nil c).symm, List.Sublist.refl _, fun l hl => nomatch hl⟩
    · rintro ⟨a, ha, d, rfl, sb, _⟩
      have e : d = [] := List.map_eq_nil_iff.mp (List.sublist_nil.mp sb)
      rw [e, List.append_nil]
      exact ha
  | n :: ns, acc, c => by
    show c ∈ allCl ns (acc ++ acc.flatMap (two n)) ↔ _
    rw [all_mem]
    constructor
    · rintro ⟨a, ha, d, rfl, sb, sg⟩
      rcases List.mem_append.mp ha with ha | ha
      · exact ⟨a, ha, d, rfl, sb.cons _, sg⟩
      · obtain ⟨b, hb, hab⟩ := List.mem_flatMap.mp ha
        have key : ∀ v : Int, (v = 0 ∨ v = 1) → a = b ++ [(n, v)] → ∃ a_1 ∈ acc, ∃ d' : Cl, a ++ d = a_1 ++ d' ∧ (d'.map (·.1)).Sublist (n :: ns) ∧ ∀ l ∈ d', l.2 = 0 ∨ l.2 = 1 := fun v hv e => by
          refine ⟨b, hb, (n, v) :: d, ?_, sb.cons_cons _, fun l hl => ?_⟩
          · rw [e, List.append_assoc]
            rfl
          · rcases List.mem_cons.mp hl with rfl | hl
            · exact hv
            · exact sg l hl
        rcases List.mem_cons.mp hab with e | hab
        · exact key 0 (.inl rfl) e
        · exact key 1 (.inr rfl) (List.mem_singleton.mp hab)
    · rintro ⟨a, ha, d, rfl, sb, sg⟩
      rcases List.sublist_cons_iff.mp sb with sb2 | ⟨r, e, sb2⟩
      · exact ⟨a, List.mem_append.mpr (.inl ha), d, rfl, sb2, sg⟩
      · cases d with
        | nil => cases e
        | cons x d =>
          obtain ⟨e1, e2⟩ := List.cons.inj e
          refine ⟨a ++ [x], List.mem_append.mpr (.inr (List.mem_flatMap.mpr ⟨a, ha, ?_⟩)), d, by rw [List.append_assoc]; rfl, by rw [show d.map (·.1) = r from e2]; exact sb2, fun l hl => sg l (List.mem_cons_of_mem _ hl)⟩
          have ex : x = (n, x.2) := Prod.ext e1 rfl
          rcases sg x List.mem_cons_self with h | h
          · rw [ex, h]
            exact List.mem_cons_self ..
          · rw [ex, h]
            exact List.mem_cons_of_mem _ (List.mem_singleton.mpr rfl)
theorem vc_sub : ∀ {ns : List Str}, Asc ns → ∀ {c : Cl}, Vc ns c → (c.map (·.1)).Sublist ns
  | [], _, c, v => by
    cases c with
    | nil => exact List.Sublist.refl _
    | cons x c => exact nomatch (v.2 x List.mem_cons_self).1
  | z :: ns, asc, c, v => by
    obtain ⟨up, asc'⟩ := List.pairwise_cons.mp asc
    rcases vc_head up v with ⟨v1, _⟩ | ⟨k, d, _, rfl, v1, _⟩
    · exact (vc_sub asc' v1).cons _
    · exact (vc_sub asc' v1).cons_cons _
theorem all_vc {ns : List Str} (asc : Asc ns) {c : Cl} : c ∈ allCl ns [[]] ↔ Vc ns c := by
  rw [all_mem]
  constructor
  · rintro ⟨a, ha, d, rfl, sb, sg⟩
    rw [List.mem_singleton.mp ha, List.nil_append]
    have up3 : (d.map (·.1)).Pairwise fun x y => x.cps.toList < y.cps.toList := List.Pairwise.sublist sb asc
    exact ⟨(List.pairwise_map (R := fun x y : Str => x.cps.toList < y.cps.toList) (f := fun l : Lit => l.1)).mp up3, fun l hl => ⟨sb.subset (List.mem_map.mpr ⟨l, hl, rfl⟩), sg l hl⟩⟩
  · intro v
    exact ⟨[], List.mem_singleton.mpr rfl, c, rfl, vc_sub asc v, fun l hl => (v.2 l hl).2⟩
section
variable {P : Program} {w : World} {K : PySem.W.Frag} {mg : Str → Option Value} {base : Heap}
@[irreducible] def spRows (K : PySem.W.Frag) : Sp := fun vs H Q _ => ∃ (na : Addr) (ns : List Str), vs = [.ref na] ∧ SqT K H na (ns.map V.str) ∧ ns.length ≤ 5 ∧ ns.Nodup ∧ ∀ (r : Addr) (us : List V) (H' : Hp), Same H H' → H' r = some (.lst us) → DpAll K H' us ((rowsOf ns [[]]).map clD) → Q (.ref r) H'
set_option maxHeartbeats 2000000 in
theorem ok_rows {f : Addr} {fd : FuncData} (F : Fun K "_law_rows" "_law_rows" s__law_rows f fd) (m_list : mg "list" = none) : FnOk P w K mg base CX0 1 f fd ["_law_names_here"] (spRows K) := by
  refine F.ok sc__law_rows (fun vs H Q E h => ?_) (fun cdv A outer s H vs Q E hr h => ?_)
  · unfold spRows at h
    obtain ⟨na, ns, rfl, _⟩ := h
    rfl
  · unfold spRows at h
    obtain ⟨na, ns, rfl, hna, nl, nd, q⟩ := h
    refine ⟨_, (pss_cons (ps_set (i := 1) sc__law_rows.nd rfl (Or.inl rfl) (pe_lst (pa_cons (pe_tup pa_nil) pa_nil)))
    (pss_cons (ps_for PassesOwn.never rfl (pi_tup (pv 0)) (pg_name (i := 2) sc__law_rows.nd rfl (Or.inl rfl))
      (pss_cons (ps_set (i := 3) sc__law_rows.nd rfl (Or.inl rfl) (pe_lst pa_nil))
    (pss_cons (ps_for PassesOwn.never rfl (pi_list (pv 1)) (pg_name (i := 4) sc__law_rows.nd rfl (Or.inl rfl))
      (pss_cons (ps_expr (pe_bm PySem.F.plainAttrs_list PySem.F.slot_list_append PySem.F.type_list_append mt_append (pv 3) (pa_cons (pe_op op_catA (pv 4) (pe_tup (pa_cons (pe_tup (pa_cons (pv 2) (pa_cons pe_int pa_nil))) pa_nil))) pa_nil)))
    (pss_one (ps_expr (pe_bm PySem.F.plainAttrs_list PySem.F.slot_list_append PySem.F.type_list_append mt_append (pv 3) (pa_cons (pe_op op_catA (pv 4) (pe_tup (pa_cons (pe_tup (pa_cons (pv 2) (pa_cons pe_int pa_nil))) pa_nil))) pa_nil))))))
    (pss_one (ps_set (i := 1) sc__law_rows.nd rfl (Or.inl rfl) (pe_callTy (T := "list") call_list_of (by rfl) m_list (by decide +kernel) (pa_cons (pv 3) pa_nil)))))))
    (pss_one (ps_ret (pv 1))))), ?_⟩
    walk_at "rd"
    refine ⟨sz (by decide), fun T nT => ?_⟩
    have sT := same_new nT (o := .tup ([] : List V))
    have dT : Dp K (upd H T (.tup [])) (.ref T) (clD []) := .tup (sqt upd_same) .nil
    generalize upd H T (.tup []) = H1 at sT dT ⊢
    refine ⟨sz (by show 1 ≤ 100000; decide), fun R nR => ?_⟩
    have sR := same_new nR (o := .lst [.ref T])
    have hR := upd_same (H := H1) (a := R) (o := .lst [.ref T])
    have dR : DpAll K (upd H1 R (.lst [.ref T])) [.ref T] (([[]] : List Cl).map clD) := da_one (dp_same sR dT)
    have s02 := sT.trans sR
    generalize upd H1 R (.lst [.ref T]) = H2 at s02 hR dR ⊢
    clear sR sT dT
    walk_at "rd"
    refine ⟨⟨_, Bx.Same.tup s02 hna⟩, for_it (walk_tup (K := K) (a := na) (xs := ns.map V.str)) (fun i σ H' => ∃ (R : Addr) (o2 o3 o4 : Option V) (us : List V), σ = [some (.ref na), some (.ref R), o2, o3, o4] ∧ Same H H' ∧ H' R = some (.lst us) ∧ DpAll K H' us ((rowsOf (ns.take i) [[]]).map clD))
      ⟨R, none, none, none, _, rfl, s02, hR, dR⟩ (fun i σ H' _ ⟨_, _, _, _, _, _, s, _⟩ => Bx.Same.tup s hna) ?_ ?_⟩
    · rintro i x σ H3a H3 hi ⟨R, o2, o3, o4, us, rfl, s3, hR3, hus⟩ ⟨rfl, hx⟩
      obtain ⟨n, hn, rfl⟩ := at_map hx
      rw [List.length_map] at hi
      have rl : (rowsOf (ns.take i) [[]]).length ≤ 32 := by
        rw [rows_len, List.length_take, Nat.min_eq_left (by omega)]
        show 2 ^ i * 1 ≤ 32
        have : 2 ^ i ≤ 2 ^ 5 := Nat.pow_le_pow_right (by decide) (by omega)
        omega
      have rr : ∀ r ∈ rowsOf (ns.take i) [[]], r.length ≤ 1000 := fun r hr => by
        obtain ⟨a, ha, g, _, rfl⟩ := (rows_mem (nd.sublist (List.take_sublist _ _))).mp hr
        rw [List.mem_singleton.mp ha]
        show (List.length (_ ++ _)) ≤ 1000
        unfold rowF
        rw [List.nil_append, List.length_map, List.length_take]
        omega
      have ul : us.length = (rowsOf (ns.take i) [[]]).length := by rw [da_len hus, List.length_map]
      generalize hrs : rowsOf (ns.take i) [[]] = rs at hus rl rr ul
      walk_at "rd"
      refine ⟨sz (by decide), fun M nM => ?_⟩
      have nMH : H M = none := s3.free nM
      have sM := same_new nM (o := .lst ([] : List V))
      have hM := upd_same (H := H3) (a := M) (o := .lst ([] : List V))
      have MR : R ≠ M := ne_of_none hR3 nM
      have hR4 := sM _ _ hR3
      have hus4 := dpAll_same sM hus
      have s04 := s3.trans sM
      generalize upd H3 M (.lst []) = H4 at sM hM hR4 hus4 s04 ⊢
      walk_at "rd"
      refine ⟨⟨_, sq hR4⟩, for_it (walk_list (K := K) (a := R) (xs := us)) (fun j σ H' => ∃ (o4 : Option V) (ws : List V), σ = [some (.ref na), some (.ref R), some (.str n), some (.ref M), o4] ∧ Same H H' ∧ H' R = some (.lst us) ∧ DpAll K H' us (rs.map clD) ∧ H' M = some (.lst ws) ∧ DpAll K H' ws (((rs.take j).flatMap (two n)).map clD))
        ⟨o4, [], rfl, s04, hR4, hus4, hM, .nil⟩ (fun j σ H' _ ⟨_, _, _, _, h, _⟩ => sq h) ?_ ?_⟩
      · rintro j x σ H5a H5 hj ⟨o4, ws, rfl, s5, hR5, hus5, hM5, hws⟩ ⟨rfl, hx5⟩
        obtain ⟨r, hr5, dr⟩ := da_atM hus5 hx5
        obtain ⟨a, zs, rfl, ha, _⟩ := dp_tup dr
        have rm := List.mem_of_getElem? hr5
        have wl : ws.length ≤ 64 := by
          rw [da_len hws, List.length_map, flat_two]
          have := List.length_take_le' j rs
          omega
        walk_at "rd"
        -- the value 0
        refine ⟨.inl ⟨rfl, _, sq hM5⟩, ?_⟩
        walk_at "rd"
        refine ⟨sz (by show 2 ≤ 100000; decide), fun t0 nt0 => ?_⟩
        have st0 := same_new nt0 (o := .tup [.str n, .int 0])
        have ht0 : Dp K (upd H5 t0 (.tup [.str n, .int 0])) (.ref t0) (litD (n, 0)) := dp_lit (l := (n, 0)) (sqt upd_same)
        generalize upd H5 t0 (.tup [.str n, .int 0]) = H6 at st0 ht0 ⊢
        refine ⟨sz (by show 1 ≤ 100000; decide), fun u0 nu0 => ?_⟩
        have su0 := same_new nu0 (o := .tup [.ref t0])
        have hu0 := upd_same (H := H6) (a := u0) (o := .tup [.ref t0])
        have ht07 := dp_same su0 ht0
        generalize upd H6 u0 (.tup [.ref t0]) = H7 at su0 hu0 ht07 ⊢
        have s57 := st0.trans su0
        refine row_cat (dp_same s57 dr) (sqt hu0) ht07 (rr r rm) fun v0 H8 s8 dv0 => ?_
        have s58 := s57.trans s8
        have hM8 := s58 _ _ hM5
        walk_at "rd"
        refine ⟨M, _, _, rfl, rfl, hM8, szl (by omega), ?_⟩
        have tk := tk_lst (K := K) (o := .lst (ws ++ [v0])) hM8
        have s9 : Same H (upd H8 M (.lst (ws ++ [v0]))) := same_at nMH (s5.trans s58)
        have hM9 := upd_same (H := H8) (a := M) (o := .lst (ws ++ [v0]))
        have hR9 : (upd H8 M (.lst (ws ++ [v0]))) R = some (.lst us) := by rw [upd_ne MR]; exact s58 _ _ hR5
        have hus9 := da_tk tk _ _ (tup_cls rs) (dpAll_same s58 hus5)
        have hws9 := da_app (da_tk tk _ _ (tup_cls _) (dpAll_same s58 hws)) (da_one (dp_tk tk _ _ (show tupD (clD (r ++ [(n, 0)])) = true from tup_lits _) dv0))
        generalize upd H8 M (.lst (ws ++ [v0])) = H9 at s9 hM9 hR9 hus9 hws9 ⊢
        have dr9 : Dp K H9 (.ref a) (clD r) := by
          obtain ⟨r', hr', dr'⟩ := da_atM hus9 hx5
          rw [hr5] at hr'
          cases hr'
          exact dr'
        walk_at "rd"
        -- the value 1
        refine ⟨.inl ⟨rfl, _, sq hM9⟩, ?_⟩
        walk_at "rd"
        refine ⟨sz (by show 2 ≤ 100000; decide), fun t1 nt1 => ?_⟩
        have st1 := same_new nt1 (o := .tup [.str n, .int 1])
        have ht1 : Dp K (upd H9 t1 (.tup [.str n, .int 1])) (.ref t1) (litD (n, 1)) := dp_lit (l := (n, 1)) (sqt upd_same)
        generalize upd H9 t1 (.tup [.str n, .int 1]) = H10 at st1 ht1 ⊢
        refine ⟨sz (by show 1 ≤ 100000; decide), fun u1 nu1 => ?_⟩
        have su1 := same_new nu1 (o := .tup [.ref t1])
        have hu1 := upd_same (H := H10) (a := u1) (o := .tup [.ref t1])
        have ht17 := dp_same su1 ht1
        generalize upd H10 u1 (.tup [.ref t1]) = H11 at su1 hu1 ht17 ⊢
        have s911 := st1.trans su1
        refine row_cat (dp_same s911 dr9) (sqt hu1) ht17 (rr r rm) fun v1 H12 s12 dv1 => ?_
        have s912 := s911.trans s12
        have hM12 := s912 _ _ hM9
        walk_at "rd"
        refine ⟨M, _, _, rfl, rfl, hM12, szl (by rw [List.length_append]; show ws.length + 1 < 100000; omega), ?_⟩
        have tk2 := tk_lst (K := K) (o := .lst ((ws ++ [v0]) ++ [v1])) hM12
        refine ⟨_, (ws ++ [v0]) ++ [v1], rfl, same_at nMH (s9.trans s912), by rw [upd_ne MR]; exact s912 _ _ hR9, da_tk tk2 _ _ (tup_cls rs) (dpAll_same s912 hus9), upd_same, ?_⟩
        have e : ((rs.take (j + 1)).flatMap (two n)).map clD = (((rs.take j).flatMap (two n)).map clD ++ [clD (r ++ [(n, 0)])]) ++ [clD (r ++ [(n, 1)])] := by
          rw [List.take_add_one, hr5, List.flatMap_append, List.map_append, List.append_assoc]
          rfl
        rw [e]
        refine da_app ?_ (da_one (dp_tk tk2 _ _ (show tupD (clD (r ++ [(n, 1)])) = true from tup_lits _) dv1))
        have e2 : ((rs.take j).flatMap (two n)).map clD ++ [clD (r ++ [(n, 0)])] = (((rs.take j).flatMap (two n)) ++ [r ++ [(n, 0)]]).map clD := by
          rw [List.map_append]
          rfl
        rw [e2] at hws9 ⊢
        exact da_tk tk2 _ _ (tup_cls _) (dpAll_same s912 hws9)
      · rintro σ H5 ⟨o4, ws, rfl, s5, hR5, hus5, hM5, hws⟩
        rw [ul, List.take_length] at hws
        walk_at "rd"
        refine ⟨M, _, rfl, .inl (sq hM5), fun R2 nR2 => ?_⟩
        have s6 := same_new nR2 (o := .lst ws)
        refine ⟨R2, _, _, _, ws, rfl, s5.trans s6, upd_same, ?_⟩
        rw [rows_snoc hn, hrs]
        exact dpAll_same s6 hws
    · rintro σ H3 ⟨R, o2, o3, o4, us, rfl, s3, hR3, hus⟩
      rw [List.length_map, List.take_length] at hus
      walk_at "rd"
      exact q R us H3 s3 hR3 hus
@[irreducible] def spAll (K : PySem.W.Frag) : Sp := fun vs H Q _ => ∃ (na : Addr) (ns : List Str), vs = [.ref na] ∧ SqT K H na (ns.map V.str) ∧ ns.length ≤ 5 ∧ ns.Nodup ∧ ∀ (r : Addr) (us : List V) (H' : Hp), Same H H' → H' r = some (.lst us) → DpAll K H' us ((allCl ns [[]]).map clD) → Q (.ref r) H'
set_option maxHeartbeats 2000000 in
theorem ok_all {f : Addr} {fd : FuncData} (F : Fun K "_law_all_clauses" "_law_all_clauses" s__law_all_clauses f fd) (m_list : mg "list" = none) : FnOk P w K mg base CX0 1 f fd ["_law_names_here"] (spAll K) := by
  refine F.ok sc__law_all_clauses (fun vs H Q E h => ?_) (fun cdv A outer s H vs Q E hr h => ?_)
  · unfold spAll at h
    obtain ⟨na, ns, rfl, _⟩ := h
    rfl
  · unfold spAll at h
    obtain ⟨na, ns, rfl, hna, nl, nd, q⟩ := h
    refine ⟨_, (pss_cons (ps_set (i := 1) sc__law_all_clauses.nd rfl (Or.inl rfl) (pe_lst (pa_cons (pe_tup pa_nil) pa_nil)))
    (pss_cons (ps_for PassesOwn.never rfl (pi_tup (pv 0)) (pg_name (i := 2) sc__law_all_clauses.nd rfl (Or.inl rfl))
      (pss_cons (ps_set (i := 3) sc__law_all_clauses.nd rfl (Or.inl rfl) (pe_callTy (T := "list") call_list_of (by rfl) m_list (by decide +kernel) (pa_cons (pv 1) pa_nil)))
    (pss_cons (ps_for PassesOwn.never rfl (pi_list (pv 1)) (pg_name (i := 4) sc__law_all_clauses.nd rfl (Or.inl rfl))
      (pss_cons (ps_expr (pe_bm PySem.F.plainAttrs_list PySem.F.slot_list_append PySem.F.type_list_append mt_append (pv 3) (pa_cons (pe_op op_catA (pv 4) (pe_tup (pa_cons (pe_tup (pa_cons (pv 2) (pa_cons pe_int pa_nil))) pa_nil))) pa_nil)))
    (pss_one (ps_expr (pe_bm PySem.F.plainAttrs_list PySem.F.slot_list_append PySem.F.type_list_append mt_append (pv 3) (pa_cons (pe_op op_catA (pv 4) (pe_tup (pa_cons (pe_tup (pa_cons (pv 2) (pa_cons pe_int pa_nil))) pa_nil))) pa_nil))))))
    (pss_one (ps_set (i := 1) sc__law_all_clauses.nd rfl (Or.inl rfl) (pe_callTy (T := "list") call_list_of (by rfl) m_list (by decide +kernel) (pa_cons (pv 3) pa_nil)))))))
    (pss_one (ps_ret (pv 1))))), ?_⟩
    walk_at "rd"
    refine ⟨sz (by decide), fun T nT => ?_⟩
    have sT := same_new nT (o := .tup ([] : List V))
    have dT : Dp K (upd H T (.tup [])) (.ref T) (clD []) := .tup (sqt upd_same) .nil
    generalize upd H T (.tup []) = H1 at sT dT ⊢
    refine ⟨sz (by show 1 ≤ 100000; decide), fun R nR => ?_⟩
    have sR := same_new nR (o := .lst [.ref T])
    have hR := upd_same (H := H1) (a := R) (o := .lst [.ref T])
    have dR : DpAll K (upd H1 R (.lst [.ref T])) [.ref T] (([[]] : List Cl).map clD) := da_one (dp_same sR dT)
    have s02 := sT.trans sR
    generalize upd H1 R (.lst [.ref T]) = H2 at s02 hR dR ⊢
    clear sR sT dT
    walk_at "rd"
    refine ⟨⟨_, Bx.Same.tup s02 hna⟩, for_it (walk_tup (K := K) (a := na) (xs := ns.map V.str)) (fun i σ H' => ∃ (R : Addr) (o2 o3 o4 : Option V) (us : List V), σ = [some (.ref na), some (.ref R), o2, o3, o4] ∧ Same H H' ∧ H' R = some (.lst us) ∧ DpAll K H' us ((allCl (ns.take i) [[]]).map clD))
      ⟨R, none, none, none, _, rfl, s02, hR, dR⟩ (fun i σ H' _ ⟨_, _, _, _, _, _, s, _⟩ => Bx.Same.tup s hna) ?_ ?_⟩
    · rintro i x σ H3a H3 hi ⟨R, o2, o3, o4, us, rfl, s3, hR3, hus⟩ ⟨rfl, hx⟩
      obtain ⟨n, hn, rfl⟩ := at_map hx
      rw [List.length_map] at hi
      have rl : (allCl (ns.take i) [[]]).length ≤ 243 := by
        rw [all_len, List.length_take, Nat.min_eq_left (by omega)]
        show 3 ^ i * 1 ≤ 243
        have : 3 ^ i ≤ 3 ^ 5 := Nat.pow_le_pow_right (by decide) (by omega)
        omega
      have rr : ∀ r ∈ allCl (ns.take i) [[]], r.length ≤ 1000 := fun r hr => by
        obtain ⟨a, ha, d, rfl, sb, _⟩ := all_mem.mp hr
        have z := sb.length_le
        rw [List.length_map, List.length_take] at z
        rw [List.mem_singleton.mp ha, List.nil_append]
        omega
      have ul : us.length = (allCl (ns.take i) [[]]).length := by rw [da_len hus, List.length_map]
      generalize hrs : allCl (ns.take i) [[]] = rs at hus rl rr ul
      walk_at "rd"
      refine ⟨R, us, rfl, .inl (sq hR3), fun M nM => ?_⟩
      have nMH : H M = none := s3.free nM
      have sM := same_new nM (o := .lst us)
      have hM := upd_same (H := H3) (a := M) (o := .lst us)
      have MR : R ≠ M := ne_of_none hR3 nM
      have hR4 := sM _ _ hR3
      have hus4 := dpAll_same sM hus
      have s04 := s3.trans sM
      generalize upd H3 M (.lst us) = H4 at sM hM hR4 hus4 s04 ⊢
      walk_at "rd"
      refine ⟨⟨_, sq hR4⟩, for_it (walk_list (K := K) (a := R) (xs := us)) (fun j σ H' => ∃ (o4 : Option V) (ws : List V), σ = [some (.ref na), some (.ref R), some (.str n), some (.ref M), o4] ∧ Same H H' ∧ H' R = some (.lst us) ∧ DpAll K H' us (rs.map clD) ∧ H' M = some (.lst ws) ∧ DpAll K H' ws ((rs ++ (rs.take j).flatMap (two n)).map clD))
        ⟨o4, us, rfl, s04, hR4, hus4, hM, by rw [List.take_zero, List.flatMap_nil, List.append_nil]; exact hus4⟩ (fun j σ H' _ ⟨_, _, _, _, h, _⟩ => sq h) ?_ ?_⟩
      · rintro j x σ H5a H5 hj ⟨o4, ws, rfl, s5, hR5, hus5, hM5, hws⟩ ⟨rfl, hx5⟩
        obtain ⟨r, hr5, dr⟩ := da_atM hus5 hx5
        obtain ⟨a, zs, rfl, ha, _⟩ := dp_tup dr
        have rm := List.mem_of_getElem? hr5
        have wl : ws.length ≤ 1000 := by
          rw [da_len hws, List.length_map, List.length_append, flat_two]
          have := List.length_take_le' j rs
          omega
        walk_at "rd"
        -- the value 0
        refine ⟨.inl ⟨rfl, _, sq hM5⟩, ?_⟩
        walk_at "rd"
        refine ⟨sz (by show 2 ≤ 100000; decide), fun t0 nt0 => ?_⟩
        have st0 := same_new nt0 (o := .tup [.str n, .int 0])
        have ht0 : Dp K (upd H5 t0 (.tup [.str n, .int 0])) (.ref t0) (litD (n, 0)) := dp_lit (l := (n, 0)) (sqt upd_same)
        generalize upd H5 t0 (.tup [.str n, .int 0]) = H6 at st0 ht0 ⊢
        refine ⟨sz (by show 1 ≤ 100000; decide), fun u0 nu0 => ?_⟩
        have su0 := same_new nu0 (o := .tup [.ref t0])
        have hu0 := upd_same (H := H6) (a := u0) (o := .tup [.ref t0])
        have ht07 := dp_same su0 ht0
        generalize upd H6 u0 (.tup [.ref t0]) = H7 at su0 hu0 ht07 ⊢
        have s57 := st0.trans su0
        refine row_cat (dp_same s57 dr) (sqt hu0) ht07 (rr r rm) fun v0 H8 s8 dv0 => ?_
        have s58 := s57.trans s8
        have hM8 := s58 _ _ hM5
        walk_at "rd"
        refine ⟨M, _, _, rfl, rfl, hM8, szl (by omega), ?_⟩
        have tk := tk_lst (K := K) (o := .lst (ws ++ [v0])) hM8
        have s9 : Same H (upd H8 M (.lst (ws ++ [v0]))) := same_at nMH (s5.trans s58)
        have hM9 := upd_same (H := H8) (a := M) (o := .lst (ws ++ [v0]))
        have hR9 : (upd H8 M (.lst (ws ++ [v0]))) R = some (.lst us) := by rw [upd_ne MR]; exact s58 _ _ hR5
        have hus9 := da_tk tk _ _ (tup_cls rs) (dpAll_same s58 hus5)
        have hws9 := da_app (da_tk tk _ _ (tup_cls _) (dpAll_same s58 hws)) (da_one (dp_tk tk _ _ (show tupD (clD (r ++ [(n, 0)])) = true from tup_lits _) dv0))
        generalize upd H8 M (.lst (ws ++ [v0])) = H9 at s9 hM9 hR9 hus9 hws9 ⊢
        have dr9 : Dp K H9 (.ref a) (clD r) := by
          obtain ⟨r', hr', dr'⟩ := da_atM hus9 hx5
          rw [hr5] at hr'
          cases hr'
          exact dr'
        walk_at "rd"
        -- the value 1
        refine ⟨.inl ⟨rfl, _, sq hM9⟩, ?_⟩
        walk_at "rd"
        refine ⟨sz (by show 2 ≤ 100000; decide), fun t1 nt1 => ?_⟩
        have st1 := same_new nt1 (o := .tup [.str n, .int 1])
        have ht1 : Dp K (upd H9 t1 (.tup [.str n, .int 1])) (.ref t1) (litD (n, 1)) := dp_lit (l := (n, 1)) (sqt upd_same)
        generalize upd H9 t1 (.tup [.str n, .int 1]) = H10 at st1 ht1 ⊢
        refine ⟨sz (by show 1 ≤ 100000; decide), fun u1 nu1 => ?_⟩
        have su1 := same_new nu1 (o := .tup [.ref t1])
        have hu1 := upd_same (H := H10) (a := u1) (o := .tup [.ref t1])
        have ht17 := dp_same su1 ht1
        generalize upd H10 u1 (.tup [.ref t1]) = H11 at su1 hu1 ht17 ⊢
        have s911 := st1.trans su1
        refine row_cat (dp_same s911 dr9) (sqt hu1) ht17 (rr r rm) fun v1 H12 s12 dv1 => ?_
        have s912 := s911.trans s12
        have hM12 := s912 _ _ hM9
        walk_at "rd"
        refine ⟨M, _, _, rfl, rfl, hM12, szl (by rw [List.length_append]; show ws.length + 1 < 100000; omega), ?_⟩
        have tk2 := tk_lst (K := K) (o := .lst ((ws ++ [v0]) ++ [v1])) hM12
        refine ⟨_, (ws ++ [v0]) ++ [v1], rfl, same_at nMH (s9.trans s912), by rw [upd_ne MR]; exact s912 _ _ hR9, da_tk tk2 _ _ (tup_cls rs) (dpAll_same s912 hus9), upd_same, ?_⟩
        have e : (rs ++ (rs.take (j + 1)).flatMap (two n)).map clD = ((rs ++ (rs.take j).flatMap (two n)).map clD ++ [clD (r ++ [(n, 0)])]) ++ [clD (r ++ [(n, 1)])] := by
          rw [List.take_add_one, hr5, List.flatMap_append, ← List.append_assoc, List.map_append, List.append_assoc]
          rfl
        rw [e]
        refine da_app ?_ (da_one (dp_tk tk2 _ _ (show tupD (clD (r ++ [(n, 1)])) = true from tup_lits _) dv1))
        have e2 : (rs ++ (rs.take j).flatMap (two n)).map clD ++ [clD (r ++ [(n, 0)])] = ((rs ++ (rs.take j).flatMap (two n)) ++ [r ++ [(n, 0)]]).map clD := by
          rw [List.map_append (l₂ := [r ++ [(n, 0)]])]
          rfl
        rw [e2] at hws9 ⊢
        exact da_tk tk2 _ _ (tup_cls _) (dpAll_same s912 hws9)
      · rintro σ H5 ⟨o4, ws, rfl, s5, hR5, hus5, hM5, hws⟩
        rw [ul, List.take_length] at hws
        walk_at "rd"
        refine ⟨M, _, rfl, .inl (sq hM5), fun R2 nR2 => ?_⟩
        have s6 := same_new nR2 (o := .lst ws)
        refine ⟨R2, _, _, _, ws, rfl, s5.trans s6, upd_same, ?_⟩
        rw [all_snoc hn, hrs]
        exact dpAll_same s6 hws
    · rintro σ H3 ⟨R, o2, o3, o4, us, rfl, s3, hR3, hus⟩
      rw [List.length_map, List.take_length] at hus
      walk_at "rd"
      exact q R us H3 s3 hR3 hus
/-- a clause holds in a row -/
def holdR (c r : Cl) : Bool := c.any fun x => decide (x ∈ r)
def allR (cs : List Cl) (r : Cl) : Bool := cs.all fun c => holdR c r
def follR (c : Cl) (rs : List Cl) : Bool := rs.all (holdR c)
@[irreducible] def spLHold (K : PySem.W.Frag) : Sp := fun vs H Q _ => ∃ (p v : Addr) (c r : Cl), vs = [.ref p, .ref v] ∧ Dp K H (.ref p) (clD c) ∧ Dp K H (.ref v) (clD r) ∧ OkC c ∧ OkC r ∧ Q (.bl (holdR c r)) H
theorem ok_lholds {f : Addr} {fd : FuncData} (F : Fun K "_law_holds" "_law_holds" s__law_holds f fd) : FnOk P w K mg base CX0 1 f fd ["_law_clause", "_law_row"] (spLHold K) := by
  refine F.ok sc__law_holds (fun vs H Q E h => ?_) (fun cdv A outer s H vs Q E hr h => ?_)
  · unfold spLHold at h
    obtain ⟨p, v, c, r, rfl, _⟩ := h
    rfl
  · unfold spLHold at h
    obtain ⟨p, v, c, r, rfl, hc, hr2, oc, orr, q⟩ := h
    refine ⟨_, (pss_cons (ps_for PassesOwn.never rfl (pi_tup (pv 0)) (pg_name (i := 2) sc__law_holds.nd rfl (Or.inl rfl))
      (pss_one (ps_if (pt_cmpR (Sl.op_inT (K := K) rfl (room hr)) (pv 2) (pv 1) (by rfl))
      (pss_one (ps_ret pe_bl))
      pss_nil)))
    (pss_one (ps_ret pe_bl))), ?_⟩
    walk_at "rd"
    obtain ⟨p', xs, ep, ht, ha⟩ := dp_tup hc
    cases ep
    have xl : xs.length = c.length := by rw [da_len ha, List.length_map]
    refine ⟨⟨_, ht⟩, for_it walk_tup (fun i σ H' => ∃ o2 : Option V, σ = [some (.ref p), some (.ref v), o2] ∧ H' = H ∧ (c.take i).any (fun x => decide (x ∈ r)) = false) ⟨none, rfl, rfl, rfl⟩ (fun i σ H' _ ⟨_, _, e, _⟩ => e ▸ ht) ?_ ?_⟩
    · rintro i x σ H1 H2 hi ⟨o2, rfl, rfl, al⟩ ⟨rfl, hx⟩
      obtain ⟨l, hl, dl⟩ := da_atM ha hx
      walk_at "rd"
      refine ⟨litD l, r.map litD, dl, hr2, sh_lit (oc l (List.mem_of_getElem? hl)), sh_cl orr, ?_⟩
      rw [any_lit]
      refine ⟨_, rfl, ite2 (fun m => ?_) (fun m => ?_)⟩
      · have e : holdR c r = true := List.any_eq_true.mpr ⟨l, List.mem_of_getElem? hl, m⟩
        rw [e] at q
        walk_at "rd"
        exact q
      · walk_at "rd"
        have nm : decide (l ∈ r) = false := by simpa using m
        rw [List.take_add_one, hl, List.any_append, al, Bool.false_or]
        show (decide (l ∈ r) || false) = false
        rw [nm]
        rfl
    · rintro σ H1 ⟨o2, rfl, rfl, al⟩
      rw [xl, List.take_length] at al
      walk_at "rd"
      have e : holdR c r = false := al
      rw [e] at q
      exact q
@[irreducible] def spAllH (K : PySem.W.Frag) : Sp := fun vs H Q _ => ∃ (ca v : Addr) (xs : List V) (cs : List Cl) (r : Cl), vs = [.ref ca, .ref v] ∧ SqL K H ca xs ∧ DpAll K H xs (cs.map clD) ∧ Dp K H (.ref v) (clD r) ∧ (∀ c ∈ cs, OkC c) ∧ OkC r ∧ Q (.bl (allR cs r)) H
theorem ok_all_hold {f : Addr} {fd : FuncData} (F : Fun K "_law_all_hold" "_law_all_hold" s__law_all_hold f fd) (C__law_holds : Cal P w K mg base "_law_holds" 1 ["_law_clause", "_law_row"] (spLHold K)) : FnOk P w K mg base CX0 2 f fd ["_law_clauses_here", "_law_row"] (spAllH K) := by
  refine F.ok sc__law_all_hold (fun vs H Q E h => ?_) (fun cdv A outer s H vs Q E hr h => ?_)
  · unfold spAllH at h
    obtain ⟨ca, v, xs, cs, r, rfl, _⟩ := h
    rfl
  · unfold spAllH at h
    obtain ⟨ca, v, xs, cs, r, rfl, hc, hd, hr2, oc, orr, q⟩ := h
    refine ⟨_, (pss_cons (ps_for PassesOwn.never rfl (pi_list (pv 0)) (pg_name (i := 2) sc__law_all_hold.nd rfl (Or.inl rfl))
      (pss_one (ps_if (pt_not (pt_val (pe_cal C__law_holds (hr.mono (by decide)) (pa_cons (pv 2) (pa_cons (pv 1) pa_nil)))))
      (pss_one (ps_ret pe_bl))
      pss_nil)))
    (pss_one (ps_ret pe_bl))), ?_⟩
    walk_at "rd"
    have xl : xs.length = cs.length := by rw [da_len hd, List.length_map]
    refine ⟨⟨_, hc⟩, for_it walk_list (fun i σ H' => ∃ o2 : Option V, σ = [some (.ref ca), some (.ref v), o2] ∧ H' = H ∧ (cs.take i).all (fun c => holdR c r) = true) ⟨none, rfl, rfl, rfl⟩ (fun i σ H' _ ⟨_, _, e, _⟩ => e ▸ hc) ?_ ?_⟩
    · rintro i x σ H1 H2 hi ⟨o2, rfl, rfl, al⟩ ⟨rfl, hx⟩
      obtain ⟨c, hc1, dc⟩ := da_atM hd hx
      obtain ⟨b, ys, rfl, hb, _⟩ := dp_tup dc
      have cm := List.mem_of_getElem? hc1
      walk_at "rd"
      show spLHold K _ _ _ _
      unfold spLHold
      refine ⟨b, v, c, r, rfl, dc, hr2, oc c cm, orr, ?_⟩
      cases hh : holdR c r with
      | true =>
        walk_at "rd"
        rw [List.take_add_one, hc1, List.all_append, al, Bool.true_and]
        show (holdR c r && true) = true
        rw [hh]
        rfl
      | false =>
        walk_at "rd"
        have e : allR cs r = false := List.all_eq_false.mpr ⟨c, cm, by rw [hh]; exact Bool.false_ne_true⟩
        rw [e] at q
        exact q
    · rintro σ H1 ⟨o2, rfl, rfl, al⟩
      rw [xl, List.take_length] at al
      walk_at "rd"
      have e : allR cs r = true := al
      rw [e] at q
      exact q
@[irreducible] def spFoll (K : PySem.W.Frag) : Sp := fun vs H Q _ => ∃ (p sa : Addr) (xs : List V) (c : Cl) (rs : List Cl), vs = [.ref p, .ref sa] ∧ Dp K H (.ref p) (clD c) ∧ SqL K H sa xs ∧ DpAll K H xs (rs.map clD) ∧ OkC c ∧ (∀ r ∈ rs, OkC r) ∧ Q (.bl (follR c rs)) H
theorem ok_follows {f : Addr} {fd : FuncData} (F : Fun K "_law_follows" "_law_follows" s__law_follows f fd) (C__law_holds : Cal P w K mg base "_law_holds" 1 ["_law_clause", "_law_row"] (spLHold K)) : FnOk P w K mg base CX0 2 f fd ["_law_clause", "_law_solutions"] (spFoll K) := by
  refine F.ok sc__law_follows (fun vs H Q E h => ?_) (fun cdv A outer s H vs Q E hr h => ?_)
  · unfold spFoll at h
    obtain ⟨p, sa, xs, c, rs, rfl, _⟩ := h
    rfl
  · unfold spFoll at h
    obtain ⟨p, sa, xs, c, rs, rfl, hp, hc, hd, oc, orr, q⟩ := h
    refine ⟨_, (pss_cons (ps_for PassesOwn.never rfl (pi_list (pv 1)) (pg_name (i := 2) sc__law_follows.nd rfl (Or.inl rfl))
      (pss_one (ps_if (pt_not (pt_val (pe_cal C__law_holds (hr.mono (by decide)) (pa_cons (pv 0) (pa_cons (pv 2) pa_nil)))))
      (pss_one (ps_ret pe_bl))
      pss_nil)))
    (pss_one (ps_ret pe_bl))), ?_⟩
    walk_at "rd"
    have xl : xs.length = rs.length := by rw [da_len hd, List.length_map]
    refine ⟨⟨_, hc⟩, for_it walk_list (fun i σ H' => ∃ o2 : Option V, σ = [some (.ref p), some (.ref sa), o2] ∧ H' = H ∧ (rs.take i).all (holdR c) = true) ⟨none, rfl, rfl, rfl⟩ (fun i σ H' _ ⟨_, _, e, _⟩ => e ▸ hc) ?_ ?_⟩
    · rintro i x σ H1 H2 hi ⟨o2, rfl, rfl, al⟩ ⟨rfl, hx⟩
      obtain ⟨r, hc1, dc⟩ := da_atM hd hx
      obtain ⟨b, ys, rfl, hb, _⟩ := dp_tup dc
      have cm := List.mem_of_getElem? hc1
      walk_at "rd"
      show spLHold K _ _ _ _
      unfold spLHold
      refine ⟨p, b, c, r, rfl, hp, dc, oc, orr r cm, ?_⟩
      cases hh : holdR c r with
      | true =>
        walk_at "rd"
        rw [List.take_add_one, hc1, List.all_append, al, Bool.true_and]
        show (holdR c r && true) = true
        rw [hh]
        rfl
      | false =>
        walk_at "rd"
        have e : follR c rs = false := List.all_eq_false.mpr ⟨r, cm, by rw [hh]; exact Bool.false_ne_true⟩
        rw [e] at q
        exact q
    · rintro σ H1 ⟨o2, rfl, rfl, al⟩
      rw [xl, List.take_length] at al
      walk_at "rd"
      have e : follR c rs = true := al
      rw [e] at q
      exact q
end
end K10
namespace K10
local macro_rules | `(tactic| walk_at "rd") => `(tactic| repeat (first | refine ⟨rfl, ?_⟩ | refine ⟨_, rfl, ?_⟩ | refine ⟨_, _, rfl, rfl, ?_⟩ | refine ⟨⟨_, rfl⟩, ?_⟩))
open PySem PySem.Spec PyProof.Rows L2 Bx TL Dx Zx Ow Sup NdefX Px
/-! ### rows are assignments -/
theorem row_mem {ns : List Str} {f : Str → Int} {x : Lit} : x ∈ rowF ns f ↔ x.1 ∈ ns ∧ f x.1 = x.2 := by
  unfold rowF
  rw [List.mem_map]
  constructor
  · rintro ⟨z, hz, rfl⟩
    exact ⟨hz, rfl⟩
  · rintro ⟨h1, h2⟩
    exact ⟨x.1, h1, by rw [h2]⟩
theorem hold_row {ns : List Str} {c : Cl} (v : Vc ns c) (f : Str → Int) : holdR c (rowF ns f) = hold f c := by
  rw [Bool.eq_iff_iff]
  unfold holdR hold
  rw [List.any_eq_true, List.any_eq_true]
  constructor
  · rintro ⟨x, hx, h⟩
    exact ⟨x, hx, decide_eq_true (row_mem.mp (of_decide_eq_true h)).2⟩
  · rintro ⟨x, hx, h⟩
    exact ⟨x, hx, decide_eq_true (row_mem.mpr ⟨(v.2 x hx).1, of_decide_eq_true h⟩)⟩
theorem all_row {ns : List Str} : ∀ {cs : List Cl}, (∀ c ∈ cs, Vc ns c) → ∀ f : Str → Int, allR cs (rowF ns f) = sat cs f
  | [], _, _ => rfl
  | c :: cs, v, f => by
    show (holdR c (rowF ns f) && allR cs (rowF ns f)) = (hold f c && sat cs f)
    rw [hold_row (v c List.mem_cons_self), all_row fun d hd => v d (List.mem_cons_of_mem _ hd)]
def sols (ns : List Str) (cs : List Cl) : List Cl := (rowsOf ns [[]]).filter (allR cs)
theorem sols_mem {ns : List Str} {cs : List Cl} (nd : ns.Nodup) (v : ∀ c ∈ cs, Vc ns c) {r : Cl} : r ∈ sols ns cs ↔ ∃ f, B01 f ∧ sat cs f = true ∧ r = rowF ns f := by
  unfold sols
  rw [List.mem_filter, rows_mem nd]
  constructor
  · rintro ⟨⟨a, ha, f, b, rfl⟩, h⟩
    rw [List.mem_singleton.mp ha, List.nil_append] at h ⊢
    rw [all_row v] at h
    exact ⟨f, b, h, rfl⟩
  · rintro ⟨f, b, h, rfl⟩
    exact ⟨⟨[], List.mem_singleton.mpr rfl, f, b, rfl⟩, by rw [all_row v]; exact h⟩
theorem foll_iff {ns : List Str} {cs : List Cl} {c : Cl} (nd : ns.Nodup) (v : ∀ c ∈ cs, Vc ns c) (vc : Vc ns c) : follR c (sols ns cs) = true ↔ Follows cs c := by
  unfold follR
  rw [List.all_eq_true]
  constructor
  · intro h f b s
    rw [← hold_row vc f]
    exact h _ ((sols_mem nd v).mpr ⟨f, b, s, rfl⟩)
  · intro h r hr
    obtain ⟨f, b, s, rfl⟩ := (sols_mem nd v).mp hr
    rw [hold_row vc f]
    exact h f b s
theorem okc_row {ns : List Str} {cs : List Cl} (nd : ns.Nodup) (v : ∀ c ∈ cs, Vc ns c) (ok : ∀ z ∈ ns, PyData.strOk z = true) : ∀ r ∈ sols ns cs, OkC r := fun r hr => by
  obtain ⟨f, b, s, rfl⟩ := (sols_mem nd v).mp hr
  exact fun l hl => ok _ (row_mem.mp hl).1
theorem okc_rows {ns : List Str} (nd : ns.Nodup) (ok : ∀ z ∈ ns, PyData.strOk z = true) : ∀ r ∈ rowsOf ns [[]], OkC r := fun r hr => by
  obtain ⟨a, ha, f, b, rfl⟩ := (rows_mem nd).mp hr
  rw [List.mem_singleton.mp ha, List.nil_append]
  exact fun l hl => ok _ (row_mem.mp hl).1
/-! ### without one literal -/
def less (c : Cl) (k : Nat) : Cl := c.take k ++ c.drop (k + 1)
theorem less_rid {c : Cl} (u : Up c) {k : Nat} {x : Lit} (h : c[k]? = some x) : less c k = rid c x := by
  have nd : c.Nodup := (up_nd u).of_map _ fun a b e z => e (congrArg _ z)
  obtain ⟨hk, e⟩ := List.getElem?_eq_some_iff.mp h
  have es : c = c.take k ++ x :: c.drop (k + 1) := by
    rw [← e, ← List.drop_eq_getElem_cons hk, List.take_append_drop]
  have n1 : x ∉ c.take k := nd_take nd h
  have n2 : x ∉ c.drop (k + 1) := by
    rw [es] at nd
    exact (List.nodup_cons.mp (List.nodup_append.mp nd).2.1).1
  unfold less rid
  have keep : ∀ l : Cl, x ∉ l → l.filter (fun y => decide (y ≠ x)) = l := fun l hl => List.filter_eq_self.mpr fun y hy => decide_eq_true fun z => hl (z ▸ hy)
  have e2 : c.filter (fun y => decide (y ≠ x)) = (c.take k ++ x :: c.drop (k + 1)).filter (fun y => decide (y ≠ x)) := by rw [← es]
  rw [e2, List.filter_append, keep _ n1, List.filter_cons_of_neg (by simp), keep _ n2]
def shorts (c : Cl) : List Cl := (List.range c.length).map (less c)
def least (fs : List Cl) (c : Cl) : Bool := decide (((shorts c).filter fun d => decide (d ∈ fs)).length = 0)
theorem least_iff {fs : List Cl} {c : Cl} (u : Up c) : least fs c = true ↔ ∀ x ∈ c, rid c x ∉ fs := by
  unfold least shorts
  rw [decide_eq_true_iff, List.length_eq_zero_iff, List.filter_eq_nil_iff]
  constructor
  · intro h x hx m
    obtain ⟨k, hk, e⟩ := List.mem_iff_getElem.mp hx
    refine h (less c k) (List.mem_map.mpr ⟨k, List.mem_range.mpr hk, rfl⟩) (decide_eq_true ?_)
    rw [less_rid u (x := x) (by rw [List.getElem?_eq_getElem hk, e])]
    exact m
  · intro h d hd m
    obtain ⟨k, hk, rfl⟩ := List.mem_map.mp hd
    have hk' := List.mem_range.mp hk
    rw [less_rid u (List.getElem?_eq_getElem hk')] at m
    exact h _ (List.getElem_mem hk') (of_decide_eq_true m)
theorem norm_prime {ns : List Str} {cs fs : List Cl} (asc : Asc ns) (nd : ns.Nodup) (v : ∀ c ∈ cs, Vc ns c) (hf : ∀ c, c ∈ fs ↔ c ∈ allCl ns [[]] ∧ follR c (sols ns cs) = true) (c : Cl) : c ∈ fs.filter (least fs) ↔ Prime ns cs c := by
  have mem : ∀ d, Vc ns d → (d ∈ fs ↔ Follows cs d) := fun d vd => by
    rw [hf, all_vc asc, foll_iff nd v vd]
    exact ⟨fun h => h.2, fun h => ⟨vd, h⟩⟩
  rw [List.mem_filter]
  constructor
  · rintro ⟨h1, h2⟩
    have vc : Vc ns c := (all_vc asc).mp ((hf c).mp h1).1
    exact ⟨vc, (mem c vc).mp h1, fun x hx z => (least_iff vc.1).mp h2 x hx ((mem _ (vc_rid vc x)).mpr z)⟩
  · rintro ⟨vc, fo, m⟩
    exact ⟨(mem c vc).mpr fo, (least_iff vc.1).mpr fun x hx z => m x hx ((mem _ (vc_rid vc x)).mp z)⟩
/-! ### dicts of clauses, again -/
section
variable {P : Program} {w : World} {K : PySem.W.Frag} {H : Hp} {D : Addr} {cs : List Cl}
theorem bo_again {kvs : List Dn.En} {c : Cl} {b : Addr} {v : V} (h : H D = some (Dn.DN P w D kvs)) (k : Dn.KeysAt K H kvs) (e : (kvs.map fun p => p.2.1) = cs.map clD) (m : c ∈ cs) : Bo P w K (upd H D (Dn.DN P w D (Dn.putN kvs b (clD c) v))) D cs := by
  have tk := tk_dn (K := K) (o := Dn.DN P w D (Dn.putN kvs b (clD c) v)) h
  have ep : Dn.putN kvs b (clD c) v = kvs.map fun p => if Sd.nk p.2.1 = Sd.nk (clD c) then (p.1, p.2.1, v) else p := by
    unfold Dn.putN
    rw [bo_val e, decide_eq_true m]
    rfl
  have e1 : ((Dn.putN kvs b (clD c) v).map fun p => p.2.1) = kvs.map fun p => p.2.1 := by
    rw [ep, List.map_map]
    refine List.map_congr_left fun p _ => ?_
    show (if Sd.nk p.2.1 = Sd.nk (clD c) then (p.1, p.2.1, v) else p).2.1 = p.2.1
    split <;> rfl
  have e2 : ((Dn.putN kvs b (clD c) v).map fun p => V.ref p.1) = kvs.map fun p => V.ref p.1 := by
    rw [ep, List.map_map]
    refine List.map_congr_left fun p _ => ?_
    show V.ref (if Sd.nk p.2.1 = Sd.nk (clD c) then (p.1, p.2.1, v) else p).1 = V.ref p.1
    split <;> rfl
  refine ⟨_, upd_same, ⟨?_, fun p hp => ?_⟩, by rw [e1, e]⟩
  · rw [e1, e2]
    have k1 := k.1
    rw [e] at k1 ⊢
    exact da_tk tk _ _ (tup_cls cs) k1
  · rw [ep] at hp
    obtain ⟨q, hq, rfl⟩ := List.mem_map.mp hp
    have z := k.2 q hq
    split <;> exact z
theorem bo_any {kvs : List Dn.En} {c : Cl} {b : Addr} {v : V} (h : H D = some (Dn.DN P w D kvs)) (k : Dn.KeysAt K H kvs) (e : (kvs.map fun p => p.2.1) = cs.map clD) (dc : Dp K H (.ref b) (clD c)) (nd : cs.Nodup) :
    ∃ ds : List Cl, Bo P w K (upd H D (Dn.DN P w D (Dn.putN kvs b (clD c) v))) D ds ∧ ds.Nodup ∧ ds.length ≤ cs.length + 1 ∧ ∀ x, x ∈ ds ↔ x ∈ cs ∨ x = c := by
  by_cases m : c ∈ cs
  · exact ⟨cs, bo_again h k e m, nd, by omega, fun x => ⟨.inl, fun h => h.elim id fun e => e ▸ m⟩⟩
  · refine ⟨cs ++ [c], bo_put h k e m dc, List.nodup_append.mpr ⟨nd, List.nodup_cons.mpr ⟨fun h => (nomatch h), List.nodup_nil⟩, fun a ha b hb e => m (by rw [← List.mem_singleton.mp hb, ← e]; exact ha)⟩, by rw [List.length_append]; exact Nat.le_refl _, fun x => by rw [List.mem_append, List.mem_singleton]⟩
theorem sqt_butN {H' : Hp} {a : Addr} {xs : List V} (hn : ∀ ys u, H D ≠ some (.tup ys) ∧ H D ≠ some (.frz u (.tup ys))) (sb : SameBut D H H') (h : SqT K H a xs) : SqT K H' a xs := by
  rcases h with (h | ⟨u, h⟩) | h
  · exact .inl (.inl (sb _ _ (fun z => (hn xs default).1 (z ▸ h)) h))
  · exact .inl (.inr ⟨u, sb _ _ (fun z => (hn xs u).2 (z ▸ h)) h⟩)
  · exact .inr h
end
theorem cat_any {K : PySem.W.Frag} {H : Hp} {a b : Addr} {xs ys : List V} {Q : VK} (ha : SqT K H a xs) (hb : SqT K H b ys) (hl : xs.length + ys.length ≤ 100000) (q : ∀ c H', Same H H' → SqT K H' c (xs ++ ys) → Q (.ref c) H') : rCatA K (.ref a) (.ref b) H Q := by
  refine ⟨a, b, xs, ys, rfl, rfl, ha, hb, sz hl, fun e => ?_, fun _ e => ?_, fun _ _ p np => q p _ (same_new np) (sqt upd_same)⟩
  · exact q b H (Same.refl H) (by rw [e]; exact hb)
  · exact q a H (Same.refl H) (by rw [e, List.append_nil]; exact ha)
end K10
namespace K10
local macro_rules | `(tactic| walk_at "rd") => `(tactic| repeat (first | refine ⟨rfl, ?_⟩ | refine ⟨_, rfl, ?_⟩ | refine ⟨_, _, rfl, rfl, ?_⟩ | refine ⟨⟨_, rfl⟩, ?_⟩))
open PySem PySem.Spec PyProof.Rows L2 Bx TL Dx Zx Ow Sup NdefX Px
theorem asc_nd {ns : List Str} (h : Asc ns) : ns.Nodup := by
  refine List.Pairwise.imp ?_ h
  intro a b h e
  rw [e] at h
  exact List.lt_irrefl _ h
theorem da_take {K : PySem.W.Frag} {H : Hp} : ∀ (k : Nat) {xs : List V} {ds : List PyData}, DpAll K H xs ds → DpAll K H (xs.take k) (ds.take k)
  | 0, _, _, _ => .nil
  | k + 1, _, _, .nil => .nil
  | k + 1, _, _, .cons h t => .cons h (da_take k t)
theorem da_drop {K : PySem.W.Frag} {H : Hp} : ∀ (k : Nat) {xs : List V} {ds : List PyData}, DpAll K H xs ds → DpAll K H (xs.drop k) (ds.drop k)
  | 0, _, _, h => h
  | k + 1, _, _, .nil => .nil
  | k + 1, _, _, .cons h t => da_drop k t
theorem SameBut.same' {a : Addr} {H H1 H2 : Hp} (x : Same H H1) (n : H a = none) (y : SameBut a H1 H2) : Same H H2 := SameBut.same x n y
theorem filt_snoc {α : Type} {l : List α} {i : Nat} {c : α} {p : α → Bool} (h : l[i]? = some c) : (l.take (i + 1)).filter p = (l.take i).filter p ++ if p c = true then [c] else [] := by
  rw [List.take_add_one, h, List.filter_append]
  congr 1
  by_cases m : p c = true
  · rw [if_pos m]
    exact List.filter_cons_of_pos m
  · rw [if_neg m]
    exact List.filter_cons_of_neg m
theorem filt_len {α : Type} (l : List α) (i : Nat) (p : α → Bool) : ((l.take i).filter p).length ≤ l.length := Nat.le_trans (List.length_filter_le _ _) (List.length_take_le' i l)
section
variable {P : Program} {w : World} {K : PySem.W.Frag} {mg : Str → Option Value} {base : Heap}
@[irreducible] def spLNorm (K : PySem.W.Frag) : Sp := fun vs H Q _ => ∃ (na ca : Addr) (ns : List Str) (xs : List V) (cs : List Cl), vs = [.ref na, .ref ca] ∧ SqT K H na (ns.map V.str) ∧ SqL K H ca xs ∧ DpAll K H xs (cs.map clD) ∧ ns.length ≤ 5 ∧ (∀ z ∈ ns, PyData.strOk z = true) ∧ Asc ns ∧ (∀ c ∈ cs, Vc ns c) ∧ cs.length ≤ 1000 ∧
  ∀ (r : Addr) (us : List V) (L : List Cl) (H' : Hp), Same H H' → H r = none → H' r = some (.lst us) → DpAll K H' us ((L.mergeSort cle).map clD) → L.Nodup → (∀ c, c ∈ L ↔ Prime ns cs c) → Q (.ref r) H'
set_option maxHeartbeats 2000000 in
theorem ok_lnorm {f : Addr} {fd : FuncData} (F : Fun K "_law_normal" "_law_normal" s__law_normal f fd) (m_len : mg "len" = none) (m_range : mg "range" = none) (m_sorted : mg "sorted" = none) (C__law_rows : Cal P w K mg base "_law_rows" 1 ["_law_names_here"] (spRows K)) (C__law_all_hold : Cal P w K mg base "_law_all_hold" 2 ["_law_clauses_here", "_law_row"] (spAllH K))
    (C__law_all_clauses : Cal P w K mg base "_law_all_clauses" 1 ["_law_names_here"] (spAll K)) (C__law_follows : Cal P w K mg base "_law_follows" 2 ["_law_clause", "_law_solutions"] (spFoll K)) : FnOk P w K mg base CX0 3 f fd ["_law_names_here", "_law_clauses_here"] (spLNorm K) := by
  refine F.ok sc__law_normal (fun vs H Q E h => ?_) (fun cdv A outer s H vs Q E hr h => ?_)
  · unfold spLNorm at h
    obtain ⟨na, ca, ns, xs, cs, rfl, _⟩ := h
    rfl
  · unfold spLNorm at h
    obtain ⟨na, ca, ns, xs, cs, rfl, hna, hca, dcs, nl, okn, asc, vc, csl, q⟩ := h
    have nd : ns.Nodup := asc_nd asc
    refine ⟨_, (pss_cons (ps_setLc (i := 2) (own := [("_law_row", 7)]) rfl sc__law_normal.nd rfl rfl (sw_true rfl rfl rfl (by decide +kernel)) (pi_list (pe_cal C__law_rows (hr.mono (by decide)) (pa_cons (pv 0) pa_nil))) (blkOk_by (N := n__law_normal) (sc := defScope s__law_normal) (by decide +kernel)) (fun _ _ _ _ _ => pg_name (i := 7) sc__law_normal.nd rfl (Or.inl rfl)) (fun _ _ _ _ _ => pts_one (pt_val (pe_cal C__law_all_hold (hr.mono (by decide)) (pa_cons (pv 1) (pa_cons (pv 7) pa_nil))))) (fun _ _ _ _ _ => (pv 7)))
    (pss_cons (ps_set (i := 3) sc__law_normal.nd rfl (Or.inr rfl) (Dn.pe_newN (P := P) (w := w) rfl rfl))
    (pss_cons (ps_for PassesOwn.never rfl (pi_list (pe_cal C__law_all_clauses (hr.mono (by decide)) (pa_cons (pv 0) pa_nil))) (pg_name (i := 4) sc__law_normal.nd rfl (Or.inr rfl))
      (pss_one (ps_if (pt_val (pe_cal C__law_follows (hr.mono (by decide)) (pa_cons (pv 4) (pa_cons (pv 2) pa_nil))))
      (pss_one (Dn.ps_putN (K := K) (P := P) (w := w) rfl rfl rfl (room hr) (pv 3) (pv 4) pe_bl rfl))
      pss_nil)))
    (pss_cons (ps_set (i := 5) sc__law_normal.nd rfl (Or.inl rfl) (pe_lst pa_nil))
    (pss_cons (ps_lock (ps_for PassesOwn.never rfl (Dn.pi_keysN (P := P) (w := w) rfl rfl (pv 3)) (pg_name (i := 4) sc__law_normal.nd rfl (Or.inr rfl))
      (pss_cons (ps_setLc (i := 6) (own := [("_law_k", 8)]) (tt := tYes) rfl sc__law_normal.nd rfl rfl (sw_true rfl rfl rfl (by decide +kernel)) (pi_range1 (by rfl) m_range (pa_cons (pe_callB call_len_seq (by rfl) m_len PySem.boot_len (pa_cons (pv 4) pa_nil)) pa_nil)) (blkOk_by (N := n__law_normal) (sc := defScope s__law_normal) (by decide +kernel)) (fun _ _ _ _ _ => pg_name (i := 8) sc__law_normal.nd rfl (Or.inl rfl)) (fun _ _ _ _ _ => pts_nil) (fun _ _ _ _ _ => (pe_op (op_catAK (K := K) rfl) (pe_slice (sl_tupAK (K := K) rfl) (pv 4) po_none (po_some (pv 8))) (pe_slice (sl_tupAK (K := K) rfl) (pv 4) (po_some (pe_op op_add (pv 8) pe_int)) po_none))))
    (pss_one (ps_if (pt_cmpR op_eq (pe_callB call_len_seq (by rfl) m_len PySem.boot_len (pa_cons (pe_lc (own := [("_law_other", 9)]) rfl sc__law_normal.nd (pi_list (pv 6)) (blkOk_by (N := n__law_normal) (sc := defScope s__law_normal) (by decide +kernel)) (fun _ _ _ _ _ => pg_name (i := 9) sc__law_normal.nd rfl (Or.inl rfl)) (fun _ _ _ _ _ => pts_one (pt_cmpR (Dn.op_inN (K := K) (P := P) (w := w) rfl rfl rfl (room hr)) (pv 9) (pv 3) (by rfl))) (fun _ _ _ _ _ => (pv 9))) pa_nil)) pe_int (nomark _))
      (pss_one (ps_expr (pe_bm PySem.F.plainAttrs_list PySem.F.slot_list_append PySem.F.type_list_append mt_append (pv 5) (pa_cons (pv 4) pa_nil))))
      pss_nil)))))
    (pss_one (ps_ret (pe_callB (id := "sorted") (Sd.cr_sortT (room hr)) (by rfl) m_sorted (by decide +kernel) (pa_cons (pv 5) pa_nil))))))))), ?_⟩
    walk_at "rd"
    show spRows K _ _ _ _
    unfold spRows
    refine ⟨na, ns, rfl, hna, nl, nd, fun ra us1 H1 s1 hra dra => ?_⟩
    have rl : (rowsOf ns [[]]).length ≤ 32 := by
      rw [rows_len]
      show 2 ^ ns.length * 1 ≤ 32
      have := two_small nl
      omega
    have ul1 : us1.length = (rowsOf ns [[]]).length := by rw [da_len dra, List.length_map]
    walk_at "rd"
    refine ⟨⟨_, sq hra⟩, fun D hD => ?_⟩
    refine lc_it walk_list (fun i H' => Same H1 H' ∧ ∃ us, H' D = some (.lst us) ∧ DpAll K H1 us ((((rowsOf ns [[]]).take i).filter (allR cs)).map clD)) ⟨same_new hD, [], upd_same, .nil⟩ (fun i H' _ h => sq (h.1 _ _ hra)) ?_ ?_
    · rintro i x Ha H2 hi ⟨s2, us, hM, hda⟩ ⟨rfl, hx⟩
      obtain ⟨r, hr0, dr⟩ := da_atM dra hx
      obtain ⟨b, ys, rfl, hb, _⟩ := dp_tup dr
      refine ⟨rfl, ?_⟩
      walk_at "rd"
      show spAllH K _ _ _ _
      unfold spAllH
      refine ⟨ca, b, xs, cs, r, rfl, (s1.trans s2).seq hca, dpAll_same (s1.trans s2) dcs, dp_same s2 dr, fun c hc => ok_vc okn (vc c hc), okc_rows nd okn r (List.mem_of_getElem? hr0), ?_⟩
      have ul : us.length ≤ 32 := by
        rw [da_len hda, List.length_map]
        exact Nat.le_trans (filt_len _ _ _) rl
      rw [filt_snoc hr0]
      refine ⟨_, rfl, ite2 (fun m => ?_) (fun m => ?_)⟩
      · rw [if_pos m]
        walk_at "rd"
        refine ⟨us, hM, szl (by omega), same_at hD s2, us ++ [.ref b], upd_same, ?_⟩
        rw [List.map_append]
        exact da_app hda (da_one dr)
      · rw [if_neg m, List.append_nil]
        exact ⟨s2, us, hM, hda⟩
    rintro H2 ⟨s2, us2, hM2, hda2⟩
    rw [ul1, List.take_length] at hda2
    have dS := dpAll_same s2 hda2
    change DpAll K H2 us2 ((sols ns cs).map clD) at dS
    have okS := okc_row nd vc okn
    have s02 := s1.trans s2
    walk_at "rd"
    intro fo nfo
    have sfo := same_new nfo (o := Dn.DN P w fo [])
    have bo0 : Bo P w K (upd H2 fo (Dn.DN P w fo [])) fo [] := bo_nil
    generalize upd H2 fo (Dn.DN P w fo []) = H3 at sfo bo0 ⊢
    walk_at "rd"
    show spAll K _ _ _ _
    unfold spAll
    refine ⟨na, ns, rfl, Bx.Same.tup (s02.trans sfo) hna, nl, nd, fun rb us4 H4 s4 hrb drb => ?_⟩
    have bo4 := bo_same s4 bo0
    have al : (allCl ns [[]]).length ≤ 243 := by
      rw [all_len]
      show 3 ^ ns.length * 1 ≤ 243
      have : 3 ^ ns.length ≤ 3 ^ 5 := Nat.pow_le_pow_right (by decide) nl
      omega
    have ul4 : us4.length = (allCl ns [[]]).length := by rw [da_len drb, List.length_map]
    have s24 := sfo.trans s4
    have dS4 := dpAll_same s24 dS
    have hD4 := s24 _ _ hM2
    have nofo : ∀ ys u, H4 fo ≠ some (.tup ys) ∧ H4 fo ≠ some (.frz u (.tup ys)) := by
      obtain ⟨kvs, hk, _⟩ := bo4
      intro ys u
      rw [hk]
      exact ⟨fun e => (nomatch (Option.some.inj e)), fun e => (nomatch (Option.some.inj e))⟩
    have fD : D ≠ fo := ne_of_none hM2 nfo
    have frb : rb ≠ fo := fun e => by
      obtain ⟨kvs, hk, _⟩ := bo4
      rw [e, hk] at hrb
      exact nomatch (Option.some.inj hrb)
    walk_at "rd"
    refine ⟨⟨_, sq hrb⟩, for_it walk_list (fun i σ H' => ∃ (o4 : Option V), σ = [some (.ref na), some (.ref ca), some (.ref D), some (.ref fo), o4, none, none, none, none, none] ∧ SameBut fo H4 H' ∧ ∃ fs : List Cl, Bo P w K H' fo fs ∧ fs.Nodup ∧ fs.length ≤ i ∧ ∀ c, c ∈ fs ↔ c ∈ (allCl ns [[]]).take i ∧ follR c (sols ns cs) = true)
      ⟨none, rfl, SameBut.refl _ _, [], bo4, List.nodup_nil, Nat.le_refl _, fun c => by simp⟩ (fun _ _ _ _ ⟨_, _, s, _⟩ => sq (s _ _ frb hrb)) ?_ ?_⟩
    · rintro i x σ Ha H5 hi ⟨o4, rfl, s5, fs, bo5, nd5, fl5, mem5⟩ ⟨rfl, hx⟩
      obtain ⟨c, hc, dc⟩ := da_atM drb hx
      obtain ⟨b, ys, rfl, hb, _⟩ := dp_tup dc
      have tk5 : Tk K H4 H5 := fun _ _ h => sqt_butN nofo s5 h
      have dc5 := dp_tk tk5 _ _ (show tupD (clD c) = true from tup_lits c) dc
      have vcc : Vc ns c := (all_vc asc).mp (List.mem_of_getElem? hc)
      have memn : ∀ x, x ∈ (allCl ns [[]]).take (i + 1) ↔ x ∈ (allCl ns [[]]).take i ∨ x = c := fun x => by
        rw [List.take_add_one, hc, List.mem_append]
        show _ ∨ x ∈ [c] ↔ _
        rw [List.mem_singleton]
      walk_at "rd"
      show spFoll K _ _ _ _
      unfold spFoll
      refine ⟨b, D, us2, c, sols ns cs, rfl, dc5, sq (s5 _ _ fD hD4), da_tk tk5 _ _ (tup_cls _) dS4, ok_vc okn vcc, okS, ?_⟩
      refine ⟨_, rfl, ite2 (fun m => ?_) (fun m => ?_)⟩
      · obtain ⟨kvs, hk, ka, ke⟩ := bo5
        have kl : kvs.length = fs.length := by
          have z := congrArg List.length ke
          rwa [List.length_map, List.length_map] at z
        walk_at "rd"
        refine ⟨fo, b, clD c, kvs, rfl, rfl, hk, ka, dc5, k8_cl c, szl (by omega), ?_⟩
        obtain ⟨ds, b1, b2, b3, b4⟩ := bo_any (v := V.bl true) hk ka ke dc5 nd5
        refine ⟨_, rfl, s5.trans SameBut.upd, ds, b1, b2, by omega, fun x => ?_⟩
        rw [b4, mem5, memn]
        constructor
        · rintro (h | rfl)
          · exact ⟨.inl h.1, h.2⟩
          · exact ⟨.inr rfl, m⟩
        · rintro ⟨h | rfl, h2⟩
          · exact .inl ⟨h, h2⟩
          · exact .inr rfl
      · walk_at "rd"
        refine ⟨s5, fs, bo5, nd5, by omega, fun x => ?_⟩
        rw [mem5, memn]
        constructor
        · exact fun h => ⟨.inl h.1, h.2⟩
        · rintro ⟨h | rfl, h2⟩
          · exact ⟨h, h2⟩
          · exact absurd h2 m
    rintro σ H5 ⟨o4, rfl, s5, fs, bo5, nd5, fl5, mem5⟩
    rw [ul4] at fl5 mem5
    rw [List.take_length] at mem5
    have s05 : Same H H5 := s02.trans (SameBut.same s24 nfo s5)
    walk_at "rd"
    refine ⟨sz (by decide), fun L nL => ?_⟩
    have sL := same_new nL (o := .lst ([] : List V))
    have hL := upd_same (H := H5) (a := L) (o := .lst ([] : List V))
    have bo6 := bo_same sL bo5
    generalize upd H5 L (.lst []) = H6 at sL hL bo6 ⊢
    obtain ⟨kvs, hk, ka, ke⟩ := bo6
    have s06 := s05.trans sL
    walk_at "rd"
    refine ⟨fo, Dn.DN P w fo kvs, hk, trivial, fun od => ?_⟩
    have Lfo : L ≠ fo := fun e => by
      rw [e, hk] at hL
      exact nomatch (Option.some.inj hL)
    have tkl : Tk K H6 (upd H6 fo (.frz od (Dn.DN P w fo kvs))) := tk_dn hk
    have hkl := upd_same (H := H6) (a := fo) (o := .frz od (Dn.DN P w fo kvs))
    have hLl : (upd H6 fo (.frz od (Dn.DN P w fo kvs))) L = some (.lst []) := by
      rw [upd_ne Lfo]
      exact hL
    have sl : Same H (upd H6 fo (.frz od (Dn.DN P w fo kvs))) := same_at (s02.free nfo) s06
    have dk : DpAll K (upd H6 fo (.frz od (Dn.DN P w fo kvs))) (kvs.map fun p => V.ref p.1) (fs.map clD) := by
      have k1 := ka.1
      rw [ke] at k1
      exact da_tk tkl _ _ (tup_cls _) k1
    have kl : kvs.length = fs.length := by
      have z := congrArg List.length ke
      rwa [List.length_map, List.length_map] at z
    generalize upd H6 fo (.frz od (Dn.DN P w fo kvs)) = H7 at tkl hkl hLl sl dk ⊢
    walk_at "rd"
    refine ⟨fo, od, kvs, rfl, hkl, for_it Dn.walk_N (fun i σ H' => ∃ (o4 o6 : Option V), σ = [some (.ref na), some (.ref ca), some (.ref D), some (.ref fo), o4, some (.ref L), o6, none, none, none] ∧ SameBut L H7 H' ∧ ∃ ws, H' L = some (.lst ws) ∧ DpAll K H7 ws (((fs.take i).filter (least fs)).map clD))
      ⟨_, none, rfl, SameBut.refl _ _, [], hLl, .nil⟩ (fun _ _ _ _ ⟨_, _, _, s, _⟩ => s _ _ (Ne.symm Lfo) hkl) ?_ ?_⟩
    · rintro i x σ Ha H8 hi ⟨o4, o6, rfl, s8, ws, hW, hdw⟩ ⟨rfl, p, hp, rfl⟩
      obtain ⟨c, hc, dc⟩ := da_atM dk (v := .ref p.1) (i := i) (by rw [List.getElem?_map, hp]; rfl)
      obtain ⟨b, ys, eb, hb, dcl⟩ := dp_tup dc
      cases eb
      have yl : ys.length = c.length := by rw [da_len dcl, List.length_map]
      have vcc : Vc ns c := (all_vc asc).mp ((mem5 c).mp (List.mem_of_getElem? hc)).1
      have okc := ok_vc okn vcc
      have cl5 := vc_len vcc
      have tk8 : Tk K H7 H8 := fun _ _ h => sqt_butN (D := L) (fun zs u => by rw [hLl]; exact ⟨fun e => (nomatch (Option.some.inj e)), fun e => (nomatch (Option.some.inj e))⟩) s8 h
      have hb8 := tk8 _ _ hb
      have dcl8 := da_tk tk8 _ _ (tup_lits c) dcl
      have hk8 := s8 _ _ (Ne.symm Lfo) hkl
      have ka8 : Dn.KeysAt K H8 kvs := by
        refine ⟨?_, ka.2⟩
        rw [ke]
        exact da_tk tk8 _ _ (tup_cls _) dk
      walk_at "rd"
      refine ⟨p.1, ys, rfl, .inr hb8, ?_⟩
      rw [yl]
      walk_at "rd"
      refine ⟨by omega, by omega, fun D2 hD2 => ?_⟩
      refine lc_it walk_range (fun k H' => Same H8 H' ∧ ∃ us, H' D2 = some (.lst us) ∧ DpAll K (mn H' [D2]) us (((List.range k).map (less c)).map clD)) ⟨same_new hD2, [], upd_same, .nil⟩ (fun k H' _ _ => trivial) ?_ ?_
      · rintro k x H9a H9 hk ⟨s9, us, hM, hda⟩ ⟨rfl, rfl⟩
        show gName 8 (V.int (0 + ((k : Nat) : Int))) _ _ _
        rw [Int.zero_add]
        refine ⟨rfl, ?_⟩
        walk_at "rd"
        refine slice_any (Bx.Same.tup s9 hb8) fun c1 H10 s10 h10 => ?_
        rw [cut_pre] at h10
        walk_at "rd"
        unfold tNoPart
        dsimp only
        refine slice_any (Bx.Same.tup (s9.trans s10) hb8) fun c2 H11 s11 h11 => ?_
        rw [show ((k : Nat) : Int) + 1 = ((k + 1 : Nat) : Int) from rfl, cut_suf] at h11
        have h10' := Bx.Same.tup s11 h10
        refine cat_any h10' h11 (by rw [List.length_take, List.length_drop]; omega) fun N H12 s12 hN => ?_
        have s912 := s10.trans (s11.trans s12)
        have hM12 := s912 _ _ hM
        have dN : Dp K H12 (.ref N) (clD (less c k)) := by
          refine .tup hN ?_
          unfold less
          rw [List.map_append, List.map_take, List.map_drop]
          have z := dpAll_same (s9.trans s912) dcl8
          exact da_app (da_take k z) (da_drop (k + 1) z)
        have ul : us.length = k := by rw [da_len hda, List.length_map, List.length_map, List.length_range]
        have kc : k < c.length := by
          have : (k : Int) < ((c.length : Nat) : Int) := by
            have := hk
            omega
          omega
        refine ⟨us, hM12, szl (by omega), same_at hD2 (s9.trans s912), us ++ [.ref N], upd_same, ?_⟩
        rw [mn_upd (by simp), List.range_succ, List.map_append, List.map_append]
        exact da_app (dpAll_same (mn_all s912) hda) (da_one (dp_tk (tk_mn (Same.refl H12) hM12) _ _ (show tupD (clD (less c k)) = true from tup_lits _) dN))
      rintro H9 ⟨s9, us, hM, hda⟩
      have hda9 : DpAll K H9 us ((shorts c).map clD) := by
        have z := dpAll_same (mn_same (H := H9) (S := [D2])) hda
        simpa [shorts] using z
      have ul : us.length = c.length := by
        rw [da_len hda9, List.length_map]
        unfold shorts
        rw [List.length_map, List.length_range]
      walk_at "rd"
      refine ⟨⟨_, sq hM⟩, fun D3 hD3 => ?_⟩
      have xl : us.length = (shorts c).length := by rw [da_len hda9, List.length_map]
      refine lc_it walk_list (fun k H' => Same H9 H' ∧ ∃ vs, H' D3 = some (.lst vs) ∧ DpAll K H9 vs ((((shorts c).take k).filter fun d => decide (d ∈ fs)).map clD)) ⟨same_new hD3, [], upd_same, .nil⟩ (fun k H' _ h => sq (h.1 _ _ hM)) ?_ ?_
      · rintro k x H10a H10 hk ⟨s10, vs, hV, hdv⟩ ⟨rfl, hx2⟩
        obtain ⟨d, hd, dd⟩ := da_atM hda9 hx2
        obtain ⟨b2, ys2, rfl, hb2, _⟩ := dp_tup dd
        refine ⟨rfl, ?_⟩
        walk_at "rd"
        refine ⟨b2, clD d, fo, kvs, rfl, rfl, dp_same s10 dd, k8_cl d, .inr ⟨od, (s9.trans s10) _ _ hk8⟩, ⟨dpAll_same (s9.trans s10) ka8.1, ka8.2⟩, ?_⟩
        rw [bo_val ke]
        walk_at "rd"
        have vl : vs.length ≤ 5 := by
          rw [da_len hdv, List.length_map]
          refine Nat.le_trans (filt_len _ _ _) ?_
          rw [← xl, ul]
          omega
        rw [filt_snoc hd]
        refine ite2 (fun m => ?_) (fun m => ?_)
        · have m' : decide (d ∈ fs) = true := m
          rw [if_pos m']
          walk_at "rd"
          refine ⟨vs, hV, szl (by omega), same_at hD3 s10, vs ++ [.ref b2], upd_same, ?_⟩
          rw [List.map_append]
          exact da_app hdv (da_one dd)
        · have m' : ¬ decide (d ∈ fs) = true := fun h => m h
          rw [if_neg m', List.append_nil]
          exact ⟨s10, vs, hV, hdv⟩
      rintro H10 ⟨s10, vs, hV, hdv⟩
      rw [xl, List.take_length] at hdv
      have vl : vs.length = ((shorts c).filter fun d => decide (d ∈ fs)).length := by rw [da_len hdv, List.length_map]
      have s810 := s9.trans s10
      have hW10 := s810 _ _ hW
      walk_at "rd"
      refine ⟨D3, _, rfl, .inl (sq hV), ?_⟩
      rw [vl]
      walk_at "rd"
      rw [filt_snoc (p := least fs) hc]
      have wl : ws.length ≤ 243 := by
        rw [da_len hdw, List.length_map]
        refine Nat.le_trans (filt_len _ _ _) ?_
        omega
      refine ite2 (fun m => ?_) (fun m => ?_)
      · have m' : least fs c = true := by
          have z := int_t m
          exact decide_eq_true (by omega)
        rw [if_pos m']
        walk_at "rd"
        refine ⟨.inl ⟨rfl, _, sq hW10⟩, ?_⟩
        walk_at "rd"
        refine ⟨L, _, _, rfl, rfl, hW10, szl (by omega), ?_⟩
        refine ⟨_, _, rfl, (s8.trans (Bx.Same.but s810)).trans SameBut.upd, ws ++ [.ref p.1], upd_same, ?_⟩
        rw [List.map_append]
        exact da_app hdw (da_one dc)
      · have m' : ¬ least fs c = true := fun h => by
          have z : ((shorts c).filter fun d => decide (d ∈ fs)).length = 0 := of_decide_eq_true h
          exact int_f m (by rw [z]; rfl)
        rw [if_neg m', List.append_nil]
        walk_at "rd"
        exact ⟨_, _, rfl, s8.trans (Bx.Same.but s810), ws, hW10, hdw⟩
    rintro σ H8 ⟨o4, o6, rfl, s8, ws, hW, hdw⟩
    rw [kl, List.take_length] at hdw
    refine ⟨s8 _ _ (Ne.symm Lfo) hkl, ?_⟩
    have tk8 : Tk K H7 H8 := fun _ _ h => sqt_butN (D := L) (fun zs u => by rw [hLl]; exact ⟨fun e => (nomatch (Option.some.inj e)), fun e => (nomatch (Option.some.inj e))⟩) s8 h
    have hk8 := s8 _ _ (Ne.symm Lfo) hkl
    have tk9 : Tk K H8 (upd H8 fo (Dn.DN P w fo kvs)) := fun _ _ h => sqt_butN (D := fo) (fun zs u => by rw [hk8]; exact ⟨fun e => (nomatch (Option.some.inj e)), fun e => (nomatch (HO.frz.inj (Option.some.inj e)).2)⟩) SameBut.upd h
    have hW9 : (upd H8 fo (Dn.DN P w fo kvs)) L = some (.lst ws) := by
      rw [upd_ne Lfo]
      exact hW
    have s9 : Same H (upd H8 fo (Dn.DN P w fo kvs)) := same_at (s02.free nfo) (K10.SameBut.same' sl (s05.free nL) s8)
    have dw9 := da_tk tk9 _ _ (tup_cls _) (da_tk tk8 _ _ (tup_cls _) hdw)
    generalize upd H8 fo (Dn.DN P w fo kvs) = H9 at s9 hW9 dw9 ⊢
    have fl : (fs.filter (least fs)).length ≤ 243 := by
      refine Nat.le_trans (List.length_filter_le _ _) ?_
      omega
    walk_at "rd"
    unfold tNil
    dsimp only
    refine sort_cls (sq hW9) dw9 (by omega) fun ys r nr dr => ?_
    have sr := same_new nr (o := .lst ys)
    exact q r ys (fs.filter (least fs)) _ (s9.trans sr) (s9.free nr) upd_same (dpAll_same sr dr) (nd5.sublist List.filter_sublist) (norm_prime asc nd vc mem5)
end
end K10
namespace K10
local macro_rules | `(tactic| walk_at "rd") => `(tactic| repeat (first | refine ⟨rfl, ?_⟩ | refine ⟨_, rfl, ?_⟩ | refine ⟨_, _, rfl, rfl, ?_⟩ | refine ⟨⟨_, rfl⟩, ?_⟩))
open PySem PySem.Spec PyProof.Rows L2 Bx TL Dx Zx Ow Sup NdefX Px
theorem names_dp {K : PySem.W.Frag} {H : Hp} {a : Addr} {ns : List Str} (h : SqT K H a (ns.map V.str)) : Dp K H (.ref a) (.tuple (ns.map PyData.str)) := .tup h (dp_strs ns)
section
variable {P : Program} {w : World} {K : PySem.W.Frag} {mg : Str → Option Value} {base : Heap}
@[irreducible] def spLIs (K : PySem.W.Frag) : Sp := fun vs H Q _ => ∃ (T pn pr na ca : Addr) (ns : List Str) (us xs : List V) (cs : List Cl), vs = [.ref T, .ref na, .ref ca] ∧ SqT K H T [.ref pn, .ref pr] ∧ SqT K H pn (ns.map V.str) ∧ SqT K H pr us ∧ DpAll K H us (cs.map clD) ∧ SqT K H na (ns.map V.str) ∧ SqL K H ca xs ∧ DpAll K H xs (cs.map clD) ∧ (∀ z ∈ ns, PyData.strOk z = true) ∧ (∀ c ∈ cs, OkC c) ∧ cs.length ≤ 1000 ∧ Q (.bl true) H
set_option maxHeartbeats 2000000 in
theorem ok_lis {f : Addr} {fd : FuncData} (F : Fun K "_law_is" "_law_is" s__law_is f fd) (m_isinstance : mg "isinstance" = none) (m_tuple : mg "tuple" = none) (m_len : mg "len" = none) (m_range : mg "range" = none) (m_int : mg "int" = none) (m_bool : mg "bool" = none) : FnOk P w K mg base CX0 1 f fd ["_law_actual", "_law_names_here", "_law_clauses_here"] (spLIs K) := by
  refine F.ok sc__law_is (fun vs H Q E h => ?_) (fun cdv A outer s H vs Q E hr h => ?_)
  · unfold spLIs at h
    obtain ⟨T, pn, pr, na, ca, ns, us, xs, cs, rfl, _⟩ := h
    rfl
  · unfold spLIs at h
    obtain ⟨T, pn, pr, na, ca, ns, us, xs, cs, rfl, hT, hpn, hpr, dus, hna, hca, dxs, okn, okc, csl, q⟩ := h
    have xl : xs.length = cs.length := by rw [da_len dxs, List.length_map]
    have ul : us.length = cs.length := by rw [da_len dus, List.length_map]
    refine ⟨_, (pss_cons (ps_if (PW.pt (pw_or (pt_not (pt_val (pe_callB (id := "isinstance") call_isi (by rfl) m_isinstance (by decide +kernel) (pa_cons (pv 0) (pa_cons (pe_bltn (v := .ty "tuple") (by rfl) m_tuple (by decide +kernel) rfl) pa_nil))))) (pw_or (pt_cmpR op_ne (pe_callB call_len_seq (by rfl) m_len PySem.boot_len (pa_cons (pv 0) pa_nil)) pe_int (nomark _)) (pw_or1 (pt_cmpR (op_neD hr.units) (pe_ix ix_tup (pv 0) pe_int (fun _ _ => rfl)) (pv 1) (nomark _))))))
      (pss_one (ps_ret pe_bl))
      pss_nil)
    (pss_cons (ps_if (PW.pt (pw_or (pt_not (pt_val (pe_callB (id := "isinstance") call_isi (by rfl) m_isinstance (by decide +kernel) (pa_cons (pe_ix ix_tup (pv 0) pe_int (fun _ _ => rfl)) (pa_cons (pe_bltn (v := .ty "tuple") (by rfl) m_tuple (by decide +kernel) rfl) pa_nil))))) (pw_or1 (pt_cmpR op_ne (pe_callB call_len_seq (by rfl) m_len PySem.boot_len (pa_cons (pe_ix ix_tup (pv 0) pe_int (fun _ _ => rfl)) pa_nil)) (pe_callB call_len_seq (by rfl) m_len PySem.boot_len (pa_cons (pv 2) pa_nil)) (nomark _)))))
      (pss_one (ps_ret pe_bl))
      pss_nil)
    (pss_cons (ps_for PassesOwn.never rfl (pi_range1 (by rfl) m_range (pa_cons (pe_callB call_len_seq (by rfl) m_len PySem.boot_len (pa_cons (pv 2) pa_nil)) pa_nil)) (pg_name (i := 3) sc__law_is.nd rfl (Or.inl rfl))
      (pss_cons (ps_if (PW.pt (pw_or (pt_not (pt_val (pe_callB (id := "isinstance") call_isi (by rfl) m_isinstance (by decide +kernel) (pa_cons (pe_ix ix_tup (pe_ix ix_tup (pv 0) pe_int (fun _ _ => rfl)) (pv 3) (fun _ _ => rfl)) (pa_cons (pe_bltn (v := .ty "tuple") (by rfl) m_tuple (by decide +kernel) rfl) pa_nil))))) (pw_or1 (pt_cmpR (op_neD hr.units) (pe_ix ix_tup (pe_ix ix_tup (pv 0) pe_int (fun _ _ => rfl)) (pv 3) (fun _ _ => rfl)) (pe_ix ix_list (pv 2) (pv 3) (fun _ _ => rfl)) (nomark _)))))
      (pss_one (ps_ret pe_bl))
      pss_nil)
    (pss_one (ps_for PassesOwn.never rfl (pi_tup (pe_ix ix_tup (pe_ix ix_tup (pv 0) pe_int (fun _ _ => rfl)) (pv 3) (fun _ _ => rfl))) (pg_name (i := 4) sc__law_is.nd rfl (Or.inl rfl))
      (pss_one (ps_if (PW.pt (pw_or (pt_not (pt_val (pe_callB (id := "isinstance") call_isi (by rfl) m_isinstance (by decide +kernel) (pa_cons (pe_ix ix_tup (pv 4) pe_int (fun _ _ => rfl)) (pa_cons (pe_bltn (v := .ty "int") (by rfl) m_int (by decide +kernel) rfl) pa_nil))))) (pw_or1 (pt_val (pe_callB (id := "isinstance") call_isi (by rfl) m_isinstance (by decide +kernel) (pa_cons (pe_ix ix_tup (pv 4) pe_int (fun _ _ => rfl)) (pa_cons (pe_bltn (v := .ty "bool") (by rfl) m_bool (by decide +kernel) rfl) pa_nil)))))))
      (pss_one (ps_ret pe_bl))
      pss_nil))))))
    (pss_one (ps_ret pe_bl))))), ?_⟩
    walk_at "rd"
    refine ⟨_, _, _, _, true, rfl, .ty "tuple", ty_tup hT, kit_ty (by decide +kernel), ?_⟩
    walk_at "rd"
    refine ⟨T, _, rfl, .inr hT, ?_⟩
    walk_at "rd"
    refine ⟨_, _, _, _, rfl, rfl, hT, atI_nat (j := 0) rfl, ?_⟩
    have ln : Lay 1 (.tuple (ns.map PyData.str)) := lay_tuple (lays_strs okn)
    walk_at "rd"
    refine ⟨_, _, names_dp hpn, names_dp hna, shape ln (by decide), shape ln (by decide), ?_⟩
    rw [eq_refl ln]
    walk_at "rd"
    refine ⟨_, _, _, _, rfl, rfl, hT, atI_nat (j := 1) rfl, ?_⟩
    refine ⟨_, _, _, _, true, rfl, .ty "tuple", ty_tup hpr, kit_ty (by decide +kernel), ?_⟩
    walk_at "rd"
    refine ⟨_, _, _, _, rfl, rfl, hT, atI_nat (j := 1) rfl, ?_⟩
    refine ⟨pr, _, rfl, .inr hpr, ?_⟩
    walk_at "rd"
    refine ⟨ca, _, rfl, .inl hca, ?_⟩
    walk_at "rd"
    rw [decide_eq_true (show V.int (us.length : Nat) = V.int (xs.length : Nat) by rw [xl, ul])]
    walk_at "rd"
    refine ⟨ca, _, rfl, .inl hca, ?_⟩
    walk_at "rd"
    refine ⟨by omega, by omega, for_it walk_range (fun i σ H' => ∃ (o3 o4 : Option V), σ = [some (.ref T), some (.ref na), some (.ref ca), o3, o4] ∧ H' = H) ⟨none, none, rfl, rfl⟩ (fun _ _ _ _ _ => trivial) ?_ ?_⟩
    · rintro i x σ H2a H2 hi ⟨o3, o4, rfl, rfl⟩ ⟨rfl, rfl⟩
      have e1 := List.getElem?_eq_getElem (show i < us.length by omega)
      have e2 := List.getElem?_eq_getElem hi
      obtain ⟨c, hc, dc⟩ := da_atM dus e1
      obtain ⟨c2, hc2, dc2⟩ := da_atM dxs e2
      rw [hc] at hc2
      cases hc2
      obtain ⟨b1, ys1, eq1, hb1, dl1⟩ := cl_dp dc
      obtain ⟨b2, ys2, eq2, hb2, dl2⟩ := cl_dp dc2
      rw [eq1] at e1
      rw [eq2] at e2
      have ok1 := okc c (List.mem_of_getElem? hc)
      walk_at "rd"
      refine ⟨_, _, _, _, rfl, rfl, hT, atI_nat (j := 1) rfl, ?_⟩
      walk_at "rd"
      refine ⟨_, _, _, _, rfl, rfl, hpr, by rw [Int.zero_add]; exact atI_nat e1, ?_⟩
      refine ⟨_, _, _, _, true, rfl, .ty "tuple", ty_tup hb1, kit_ty (by decide +kernel), ?_⟩
      walk_at "rd"
      refine ⟨_, _, _, _, rfl, rfl, hT, atI_nat (j := 1) rfl, ?_⟩
      walk_at "rd"
      refine ⟨_, _, _, _, rfl, rfl, hpr, by rw [Int.zero_add]; exact atI_nat e1, ?_⟩
      walk_at "rd"
      refine ⟨_, _, _, _, rfl, rfl, hca, by rw [Int.zero_add]; exact atI_nat e2, ?_⟩
      refine ⟨clD c, clD c, .tup hb1 dl1, .tup hb2 dl2, sh_cl ok1, sh_cl ok1, ?_⟩
      rw [eqv_cl, decide_eq_true rfl]
      walk_at "rd"
      refine ⟨_, _, _, _, rfl, rfl, hT, atI_nat (j := 1) rfl, ?_⟩
      walk_at "rd"
      refine ⟨_, _, _, _, rfl, rfl, hpr, by rw [Int.zero_add]; exact atI_nat e1, ?_⟩
      walk_at "rd"
      refine ⟨⟨_, hb1⟩, for_it walk_tup (fun j σ H' => ∃ (o3 o4 : Option V), σ = [some (.ref T), some (.ref na), some (.ref ca), o3, o4] ∧ H' = H2) ⟨_, _, rfl, rfl⟩ (fun _ _ _ _ ⟨_, _, _, e⟩ => e ▸ hb1) ?_ ?_⟩
      · rintro j x σ H3a H3 hj ⟨o3, o4, rfl, rfl⟩ ⟨rfl, hx⟩
        obtain ⟨l, hl, dl⟩ := da_atM dl1 hx
        obtain ⟨lq, rfl, hlq⟩ := lit_dp dl
        walk_at "rd"
        refine ⟨_, _, _, _, rfl, rfl, hlq, atI_nat (j := 1) rfl, ?_⟩
        refine ⟨_, _, _, _, true, rfl, .ty "int", .base (.int _), kit_ty (by decide +kernel), ?_⟩
        walk_at "rd"
        refine ⟨_, _, _, _, rfl, rfl, hlq, atI_nat (j := 1) rfl, ?_⟩
        refine ⟨_, _, _, _, false, rfl, .ty "bool", .base (.int _), kit_ty (by decide +kernel), ?_⟩
        walk_at "rd"
        dsimp only
        rw [if_neg Bool.false_ne_true]
        exact ⟨_, _, rfl, rfl⟩
      · rintro σ H3 ⟨o3, o4, rfl, rfl⟩
        exact ⟨_, _, rfl, rfl⟩
    · rintro σ H2 ⟨o3, o4, rfl, rfl⟩
      walk_at "rd"
      exact q
@[irreducible] def spNew (K : PySem.W.Frag) : Sp := fun vs H Q _ => ∃ (d : Addr) (z : Str) (t : Tb), vs = [.ref d, .str z] ∧ H d = some (.dK (tbV t)) ∧ Q (.str (rn t z)) H
theorem ok_new {f : Addr} {fd : FuncData} (F : Fun K "_law_new" "_law_new" s__law_new f fd) : FnOk P w K mg base CX0 1 f fd ["_law_table_here", "_law_name"] (spNew K) := by
  refine F.ok sc__law_new (fun vs H Q E h => ?_) (fun cdv A outer s H vs Q E hr h => ?_)
  · unfold spNew at h
    obtain ⟨d, z, t, rfl, _⟩ := h
    rfl
  · unfold spNew at h
    obtain ⟨d, z, t, rfl, hd, q⟩ := h
    have hu := hu_of hr
    refine ⟨_, (pss_cons (ps_if (pt_cmp (pc_din hu (pv 1) (pv 0)))
      (pss_one (ps_ret (pe_dget hu (pv 0) (pv 1) (fun _ _ => rfl))))
      pss_nil)
    (pss_one (ps_ret (pv 1)))), ?_⟩
    walk_at "rd"
    have vt := val_tb t z
    refine ⟨d, _, rfl, DGet.k (k := .inr z) hd, ?_⟩
    cases e : valV (tbV t) (.inr z) with
    | none =>
      rw [e] at vt
      walk_at "rd"
      have e2 : z = rn t z := V.str.inj vt
      rw [← e2] at q
      exact q
    | some v =>
      rw [e] at vt
      cases (show v = .str (rn t z) from vt)
      walk_at "rd"
      refine ⟨d, _, rfl, by rw [← e]; exact DGet.k (k := .inr z) hd, ?_⟩
      exact q
@[irreducible] def spLRen (K : PySem.W.Frag) : Sp := fun vs H Q _ => ∃ (d ca : Addr) (xs : List V) (cs : List Cl) (t : Tb), vs = [.ref d, .ref ca] ∧ H d = some (.dK (tbV t)) ∧ SqL K H ca xs ∧ DpAll K H xs (cs.map clD) ∧ cs.length ≤ 1000 ∧ (∀ c ∈ cs, c.length ≤ 1000) ∧
  ∀ (r : Addr) (us : List V) (H' : Hp), Same H H' → H r = none → H' r = some (.lst us) → DpAll K H' us ((cs.map (rnC t)).map clD) → Q (.ref r) H'
set_option maxHeartbeats 1000000 in
theorem ok_lren {f : Addr} {fd : FuncData} (F : Fun K "_law_renamed" "_law_renamed" s__law_renamed f fd) (m_sorted : mg "sorted" = none) (m_tuple : mg "tuple" = none) (C__law_new : Cal P w K mg base "_law_new" 1 ["_law_table_here", "_law_name"] (spNew K)) : FnOk P w K mg base CX0 2 f fd ["_law_table_here", "_law_clauses_here"] (spLRen K) := by
  refine F.ok sc__law_renamed (fun vs H Q E h => ?_) (fun cdv A outer s H vs Q E hr h => ?_)
  · unfold spLRen at h
    obtain ⟨d, ca, xs, cs, t, rfl, _⟩ := h
    rfl
  · unfold spLRen at h
    obtain ⟨d, ca, xs, cs, t, rfl, hd, hca, dcs, csl, cl, q⟩ := h
    have xl : xs.length = cs.length := by rw [da_len dcs, List.length_map]
    refine ⟨_, (pss_cons (ps_set (i := 2) sc__law_renamed.nd rfl (Or.inl rfl) (pe_lst pa_nil))
    (pss_cons (ps_for PassesOwn.never rfl (pi_list (pv 1)) (pg_name (i := 3) sc__law_renamed.nd rfl (Or.inl rfl))
      (pss_one (ps_expr (pe_bm PySem.F.plainAttrs_list PySem.F.slot_list_append PySem.F.type_list_append mt_append (pv 2) (pa_cons (pe_callTy (T := "tuple") call_tuple_of (by rfl) m_tuple (by decide +kernel) (pa_cons (pe_callB (id := "sorted") (Sd.cr_sortT (room hr)) (by rfl) m_sorted (by decide +kernel) (pa_cons (pe_lc (own := [("_law_literal", 4)]) (tt := tYes) rfl sc__law_renamed.nd (pi_tup (pv 3)) (blkOk_by (N := n__law_renamed) (sc := defScope s__law_renamed) (by decide +kernel)) (fun _ _ _ _ _ => pg_name (i := 4) sc__law_renamed.nd rfl (Or.inl rfl)) (fun _ _ _ _ _ => pts_nil) (fun _ _ _ _ _ => (pe_tup (pa_cons (pe_cal C__law_new (hr.mono (by decide)) (pa_cons (pv 0) (pa_cons (pe_ix (ix_tupK (K := K) rfl) (pv 4) pe_int (fun _ _ => rfl)) pa_nil))) (pa_cons (pe_ix (ix_tupK (K := K) rfl) (pv 4) pe_int (fun _ _ => rfl)) pa_nil))))) pa_nil)) pa_nil)) pa_nil)))))
    (pss_one (ps_ret (pv 2))))), ?_⟩
    walk_at "rd"
    refine ⟨sz (by decide), fun L nL => ?_⟩
    have sL := same_new nL (o := .lst ([] : List V))
    have hL := upd_same (H := H) (a := L) (o := .lst ([] : List V))
    generalize upd H L (.lst []) = H1 at sL hL ⊢
    walk_at "rd"
    refine ⟨⟨_, sL.seq hca⟩, for_it walk_list (fun i σ H' => ∃ o3 : Option V, σ = [some (.ref d), some (.ref ca), some (.ref L), o3, none] ∧ Same H H' ∧ ∃ us, H' L = some (.lst us) ∧ DpAll K (mn H' [L]) us (((cs.take i).map (rnC t)).map clD))
      ⟨none, rfl, sL, [], hL, .nil⟩ (fun _ _ _ _ ⟨_, _, s, _⟩ => s.seq hca) ?_ ?_⟩
    · rintro i x σ H2a H2 hi ⟨o3, rfl, s2, us, hM, hda⟩ ⟨rfl, hx⟩
      obtain ⟨c, hc, dc⟩ := da_atM dcs hx
      obtain ⟨cq, ys, rfl, hcq, dcl⟩ := cl_dp dc
      have cl1 := cl c (List.mem_of_getElem? hc)
      have yl : ys.length = c.length := by rw [da_len dcl, List.length_map]
      have c2 := Bx.Same.tup s2 hcq
      have d2 := dpAll_same s2 dcl
      walk_at "rd"
      refine ⟨.inl ⟨rfl, _, sq hM⟩, ?_⟩
      walk_at "rd"
      refine ⟨⟨_, c2⟩, fun D3 hD3 => ?_⟩
      refine lc_it walk_tup (fun j H' => Same H2 H' ∧ ∃ ws, H' D3 = some (.lst ws) ∧ DpAll K (mn H' [D3]) ws (((c.take j).map (rnL t)).map litD)) ⟨same_new hD3, [], upd_same, .nil⟩ (fun j H' _ h => Bx.Same.tup h.1 c2) ?_ ?_
      · rintro j x H3a H3 hj ⟨s3, ws, hW, hdw⟩ ⟨rfl, hx2⟩
        obtain ⟨l, hl0, dl⟩ := da_atM d2 hx2
        obtain ⟨lq, rfl, hlq⟩ := lit_dp dl
        have l3 := Bx.Same.tup s3 hlq
        refine ⟨rfl, ?_⟩
        walk_at "rd"
        refine ⟨_, _, _, _, rfl, rfl, l3, atI_nat (j := 0) rfl, ?_⟩
        show spNew K _ _ _ _
        unfold spNew
        refine ⟨d, l.1, t, rfl, (s2.trans s3) _ _ hd, ?_⟩
        walk_at "rd"
        refine ⟨_, _, _, _, rfl, rfl, l3, atI_nat (j := 1) rfl, ?_⟩
        refine ⟨sz (by show 2 ≤ 100000; decide), fun T nT => ?_⟩
        have s4 := same_new nT (o := .tup [V.str (rn t l.1), .int l.2])
        have hT4 := upd_same (H := H3) (a := T) (o := .tup [V.str (rn t l.1), .int l.2])
        have hW4 := s4 _ _ hW
        have TD : T ≠ D3 := fun e => by
          rw [e, hW] at nT
          cases nT
        have wl : ws.length ≤ c.length := by
          rw [da_len hdw, List.length_map, List.length_map]
          exact List.length_take_le' j c
        show ∃ acc, (upd H3 T (.tup [V.str (rn t l.1), .int l.2])) D3 = some (.lst acc) ∧ _
        generalize upd H3 T (.tup [V.str (rn t l.1), .int l.2]) = H4 at s4 hT4 hW4 ⊢
        refine ⟨ws, hW4, szl (by omega), same_at hD3 (s3.trans s4), ws ++ [.ref T], upd_same, ?_⟩
        rw [mn_upd (by simp), List.take_add_one, hl0, List.map_append, List.map_append]
        exact da_app (dpAll_same (mn_all s4) hdw) (da_one (dp_lit (l := rnL t l) (sqt (mn_at (by simp [TD]) hT4))))
      rintro H3 ⟨s3, ws, hW, hdw⟩
      rw [yl, List.take_length] at hdw
      have hdw2 := dpAll_same (mn_same (H := H3) (S := [D3])) hdw
      walk_at "rd"
      unfold tNil
      dsimp only
      refine sort_lits (sq hW) hdw2 (by rw [List.length_map]; omega) fun zs p np dy => ?_
      have s4 := same_new np (o := .lst zs)
      have hp := upd_same (H := H3) (a := p) (o := .lst zs)
      generalize upd H3 p (.lst zs) = H4 at s4 hp ⊢
      walk_at "rd"
      refine ⟨p, zs, rfl, .inl ⟨sq hp, fun N nN => ?_⟩⟩
      have s5 := same_new nN (o := .tup zs)
      have hN := upd_same (H := H4) (a := N) (o := .tup zs)
      have s25 := s3.trans (s4.trans s5)
      have hM5 := s25 _ _ hM
      have ND : N ≠ L := fun e => by
        rw [e, (s3.trans s4) _ _ hM] at nN
        cases nN
      generalize upd H4 N (.tup zs) = H5 at s5 s25 hN hM5 ⊢
      have ul : us.length ≤ cs.length := by
        rw [da_len hda, List.length_map, List.length_map]
        exact List.length_take_le' i cs
      walk_at "rd"
      refine ⟨L, _, _, rfl, rfl, hM5, szl (by omega), ?_⟩
      refine ⟨_, rfl, same_at nL (s2.trans s25), us ++ [.ref N], upd_same, ?_⟩
      rw [mn_upd (by simp), List.take_add_one, hc, List.map_append, List.map_append]
      exact da_app (dpAll_same (mn_all s25) hda) (da_one (.tup (sqt (mn_at (by simp [ND]) hN)) (da_tk (tk_mn (s4.trans s5) hM5) _ _ (tup_lits _) dy)))
    · rintro σ H2 ⟨o3, rfl, s2, us, hM, hda⟩
      rw [xl, List.take_length] at hda
      walk_at "rd"
      exact q L us H2 s2 nL hM (dpAll_same mn_same hda)
/-- new names for some names -/
structure TbOk (ns : List Str) (t : Tb) : Prop where
  old : ∀ p ∈ t, p.1 ∈ ns
  new : ∀ p ∈ t, p.2 ∉ ns
  ok : ∀ p ∈ t, PyData.strOk p.2 = true
  ndk : (t.map (·.1)).Nodup
  ndv : (t.map (·.2)).Nodup
theorem put_new {kvs : List (Key × V)} {k : Key} {v : V} (h : ∀ kv ∈ kvs, kv.1 ≠ k) : putK kvs k v = kvs ++ [(k, v)] := by
  unfold putK
  have e : (kvs.any fun kv => decide (kv.1 = k)) = false := by
    rw [List.any_eq_false]
    intro kv hk
    simp only [decide_eq_true_eq]
    exact h kv hk
  rw [e]
  rfl
theorem put_tb {t : Tb} {z v : Str} (h : z ∉ t.map (·.1)) : putK (tbV t) (.inr z) (.str v) = tbV (t ++ [(z, v)]) := by
  rw [put_new fun kv hk => ?_]
  · unfold tbV
    rw [List.map_append]
    rfl
  · obtain ⟨p, hp, rfl⟩ := List.mem_map.mp hk
    exact fun z2 => h (List.mem_map.mpr ⟨p, hp, Sum.inr.inj z2⟩)
theorem val_in : ∀ {t : Tb}, (t.map (·.1)).Nodup → ∀ {p : Str × Str}, p ∈ t → valV (tbV t) (.inr p.1) = some (.str p.2)
  | [], _, _, hp => nomatch hp
  | x :: r, nd, p, hp => by
    obtain ⟨n1, n2⟩ := List.nodup_cons.mp nd
    show valV (((.inr x.1 : Key), V.str x.2) :: tbV r) (.inr p.1) = _
    rcases List.mem_cons.mp hp with rfl | hp
    · rw [valV_pos rfl]
    · have e2 : ¬ ((.inr x.1 : Key), V.str x.2).1 = .inr p.1 := fun h => n1 (List.mem_map.mpr ⟨p, hp, (Sum.inr.inj h).symm⟩)
      rw [valV_neg e2]
      exact val_in n2 hp
def sixN : List Str := ["m", "z.a", "b2", "aa", "zz9", "k.k.k"]
@[irreducible] def spTable (K : PySem.W.Frag) : Sp := fun vs H Q _ => ∃ (s na : Addr) (ns : List Str), vs = [.ref s, .ref na] ∧ Src H s ∧ SqT K H na (ns.map V.str) ∧ ns.Nodup ∧ ns.length ≤ 5 ∧
  ∀ (d : Addr) (t : Tb) (H' : Hp), SameBut s H H' → Src H' s → H d = none → H' d = some (.dK (tbV t)) → TbOk ns t → Q (.ref d) H'
set_option maxHeartbeats 1000000 in
theorem ok_table {f : Addr} {fd : FuncData} (F : Fun K "_law_table" "_law_table" s__law_table f fd) (m_len : mg "len" = none) (C__law_draw : CDraw P w K mg base) : FnOk P w K mg base CX0 2 f fd ["_law_source_here", "_law_names_here"] (spTable K) := by
  refine F.ok sc__law_table (fun vs H Q E h => ?_) (fun cdv A outer s H vs Q E hr h => ?_)
  · unfold spTable at h
    obtain ⟨s, na, ns, rfl, _⟩ := h
    rfl
  · unfold spTable at h
    obtain ⟨src, na, ns, rfl, hA, hna, nd, nl, q⟩ := h
    have hu := hu_of hr
    refine ⟨_, (pss_cons (ps_set (i := 2) sc__law_table.nd rfl (Or.inr rfl) pe_dnewK)
    (pss_cons (ps_for PassesOwn.never rfl (pi_tup (pv 1)) (pg_name (i := 3) sc__law_table.nd rfl (Or.inl rfl))
      (pss_cons (ps_set (i := 4) sc__law_table.nd rfl (Or.inr rfl) (pe_ix ix_list (pe_lst (pa_cons pe_str (pa_cons pe_str (pa_cons pe_str (pa_cons pe_str (pa_cons pe_str (pa_cons pe_str pa_nil))))))) (pe_cal C__law_draw (hr.mono (by decide)) (pa_cons (pv 0) (pa_cons pe_int pa_nil))) (fun _ _ => rfl)))
    (pss_one (ps_if (PW.pt (pw_and (pt_cmpR op_notIn_seq (pv 4) (pv 1) (by rfl)) (pw_and1 (pt_cmpR op_eq (pe_callB call_len_seq (by rfl) m_len PySem.boot_len (pa_cons (pe_lock (pe_lc (own := [("_law_old", 5)]) rfl sc__law_table.nd (pi_keys (pv 2)) (blkOk_by (N := n__law_table) (sc := defScope s__law_table) (by decide +kernel)) (fun _ _ _ _ _ => pg_name (i := 5) sc__law_table.nd rfl (Or.inl rfl)) (fun _ _ _ _ _ => pts_one (pt_cmpR op_eq (pe_dget hu (pv 2) (pv 5) (fun _ _ => rfl)) (pv 4) (nomark _))) (fun _ _ _ _ _ => (pv 5)))) pa_nil)) pe_int (nomark _)))))
      (pss_one (ps_dput hu (pv 2) (pv 3) (pv 4) rfl))
      pss_nil))))
    (pss_one (ps_ret (pv 2))))), ?_⟩
    walk_at "rd"
    refine fun d nd0 => ?_
    have ds := src_ne hA nd0
    have sd := same_new nd0 (o := .dK [])
    have hd0 : (upd H d (.dK [])) d = some (.dK (tbV [])) := upd_same
    have hA0 := src_same hA sd
    walk_at "rd"
    generalize upd H d (.dK []) = H1 at sd hd0 hA0 ⊢
    refine ⟨⟨_, Bx.Same.tup sd hna⟩, for_it walk_tup (fun i σ H' => ∃ (o3 o4 : Option V), σ = [some (.ref src), some (.ref na), some (.ref d), o3, o4, none] ∧ SameBut src H H' ∧ Src H' src ∧ ∃ t, H' d = some (.dK (tbV t)) ∧ TbOk ns t ∧ (∀ p ∈ t, p.1 ∈ ns.take i) ∧ t.length ≤ i)
      ⟨none, none, rfl, Bx.Same.but sd, hA0, [], hd0, ⟨fun p hp => (nomatch hp), fun p hp => (nomatch hp), fun p hp => (nomatch hp), List.nodup_nil, List.nodup_nil⟩, fun p hp => (nomatch hp), Nat.le_refl _⟩ (fun _ _ _ _ ⟨_, _, _, s, _⟩ => sqt_but hA s hna) ?_ ?_⟩
    · rintro i x σ H2a H2 hi ⟨o3, o4, rfl, s2, hA2, t, hd2, tok, tin, tl⟩ ⟨rfl, hx⟩
      obtain ⟨z, hz, rfl⟩ := at_map hx
      have hi5 : i < ns.length := by rwa [List.length_map] at hi
      walk_at "rd"
      refine ⟨sz (by decide), fun l0 nl0 => ?_⟩
      have l0s := src_ne hA2 nl0
      have sl := same_new nl0 (o := .lst (sixN.map V.str))
      have hl0 := upd_same (H := H2) (a := l0) (o := .lst (sixN.map V.str))
      walk_at "rd"
      refine draw_of (lim := 6) (src_same hA2 sl) (by decide) fun r H3 h2 h3 s3 hA3 => ?_
      have s23 := (Bx.Same.but sl).trans s3
      have hl3 := s3 _ _ l0s.symm hl0
      obtain ⟨m, rfl⟩ := Int.eq_ofNat_of_zero_le h2
      have hm6 : m < sixN.length := by
        show m < 6
        omega
      refine ⟨_, _, _, _, rfl, rfl, sq hl3, atI_nat (j := m) (by rw [List.getElem?_map, List.getElem?_eq_getElem hm6]; rfl), ?_⟩
      have yok : PyData.strOk sixN[m] = true := by
        have a : ∀ x ∈ sixN, PyData.strOk x = true := by decide +kernel
        exact a _ (List.getElem_mem hm6)
      generalize sixN[m] = y at yok ⊢
      have s03 := s2.trans s23
      have hd3 := s23 _ _ ds.symm hd2
      walk_at "rd"
      refine ⟨na, _, rfl, .inr (sqt_but hA s03 hna), rfl, Bx.flat_all _, ?_⟩
      rw [Bx.inV_str]
      refine ⟨_, rfl, ite2 (fun h6 => ?_) (fun h6 => ?_)⟩
      · have nin : y ∉ ns := fun h => by
          rw [if_pos rfl] at h6
          simp [h] at h6
        walk_at "rd"
        refine ⟨d, .dK (tbV t), hd3, trivial, fun od => ?_⟩
        have hdl := upd_same (H := H3) (a := d) (o := .frz od (.dK (tbV t)))
        have bl := but_at (o := .frz od (.dK (tbV t))) nd0 s03
        have al := src_upd (u := .frz od (.dK (tbV t))) hA3 ds
        generalize upd H3 d (.frz od (.dK (tbV t))) = H4 at hdl bl al ⊢
        walk_at "rd"
        refine ⟨d, od, rfl, .inl ⟨_, hdl, fun D hD => ?_⟩⟩
        refine lc_it walk_keys (fun k H' => Same H4 H' ∧ H' D = some (.lst (((t.take k).filter fun p => decide (p.2 = y)).map fun p => V.str p.1))) ⟨same_new hD, upd_same⟩ (fun k H' _ h => h.1 _ _ hdl) ?_ ?_
        · rintro k x H5a H5 hk ⟨s5, hM⟩ ⟨rfl, kk, v, hkv, rfl⟩
          have hkt : ∃ p, t[k]? = some p ∧ kk = .inr p.1 ∧ v = .str p.2 := by
            unfold tbV at hkv
            rw [List.getElem?_map] at hkv
            obtain ⟨p, h1, h2⟩ := Option.map_eq_some_iff.mp hkv
            cases h2
            exact ⟨p, h1, rfl, rfl⟩
          obtain ⟨p, hp, rfl, rfl⟩ := hkt
          refine ⟨rfl, ?_⟩
          walk_at "rd"
          refine ⟨d, .str p.2, rfl, .inl ⟨tbV t, .inr p.1, .inr ⟨od, s5 _ _ hdl⟩, rfl, (val_in tok.ndk (List.mem_of_getElem? hp)).symm⟩, ?_⟩
          rw [filt_snoc (p := fun p : Str × Str => decide (p.2 = y)) hp]
          walk_at "rd"
          refine ite2 (fun mm => ?_) (fun mm => ?_)
          · have e : p.2 = y := V.str.inj (of_decide_eq_true mm)
            rw [if_pos (decide_eq_true e)]
            walk_at "rd"
            refine ⟨_, hM, ?_, same_at hD s5, ?_⟩
            · rw [List.length_map]
              have z1 := List.length_filter_le (fun p : Str × Str => decide (p.2 = y)) (t.take k)
              have z2 := List.length_take_le' k t
              exact szl (by omega)
            · rw [upd_same, List.map_append]
              rfl
          · have e : ¬ decide (p.2 = y) = true := fun h => mm (decide_eq_true (congrArg V.str (of_decide_eq_true h)))
            rw [if_neg e, List.append_nil]
            exact ⟨s5, hM⟩
        rintro H5 ⟨s5, hM⟩
        have tl2 : (tbV t).length = t.length := by unfold tbV; rw [List.length_map]
        rw [tl2, List.take_length] at hM
        have hdl5 := s5 _ _ hdl
        refine ⟨hdl5, ?_⟩
        have Dd : D ≠ d := fun e => by
          rw [e, hdl] at hD
          cases hD
        have hM6 : (upd H5 d (.dK (tbV t))) D = some (.lst ((t.filter fun p => decide (p.2 = y)).map fun p => V.str p.1)) := by
          rw [upd_ne Dd]
          exact hM
        have b6 := but_at (o := .dK (tbV t)) nd0 (bl.trans (Bx.Same.but s5))
        have a6 := src_upd (u := .dK (tbV t)) (src_same al s5) ds
        have hd6 := upd_same (H := H5) (a := d) (o := .dK (tbV t))
        generalize upd H5 d (.dK (tbV t)) = H6 at hM6 b6 a6 hd6 ⊢
        refine ⟨D, _, rfl, .inl (sq hM6), ?_⟩
        rw [List.length_map]
        walk_at "rd"
        refine ite2 (fun h7 => ?_) (fun h7 => ?_)
        · have no : ∀ p ∈ t, p.2 ≠ y := fun p hp e => by
            have l0' : (t.filter fun p => decide (p.2 = y)).length = 0 := by
              have := int_t h7
              omega
            rw [List.length_eq_zero_iff, List.filter_eq_nil_iff] at l0'
            exact l0' p hp (decide_eq_true e)
          have nz : z ∉ t.map (·.1) := fun h => by
            obtain ⟨p, hp, e⟩ := List.mem_map.mp h
            exact nd_take nd hz (by rw [← e]; exact tin p hp)
          walk_at "rd"
          refine ⟨d, _, rfl, DPut.k (k := .inr z) (v := .str y) hd6 (szl (by rw [tl2]; omega)), ?_⟩
          rw [put_tb nz]
          have cons : ∀ {R : Str × Str → Prop}, (∀ p ∈ t, R p) → R (z, y) → ∀ p ∈ t ++ [(z, y)], R p := fun {R} h1 h2 p hp => by
            rcases List.mem_append.mp hp with h | h
            · exact h1 p h
            · rw [List.mem_singleton.mp h]
              exact h2
          refine ⟨_, _, rfl, but_at nd0 b6, src_upd a6 ds, t ++ [(z, y)], upd_same, ⟨cons tok.old (List.mem_of_getElem? hz), cons tok.new nin, cons tok.ok yok, ?_, ?_⟩, cons (fun p hp => ?_) ?_, by rw [List.length_append]; show t.length + 1 ≤ i + 1; omega⟩
          · rw [List.map_append]
            exact List.nodup_append.mpr ⟨tok.ndk, List.nodup_cons.mpr ⟨fun h => (nomatch h), List.nodup_nil⟩, fun a ha b hb e => nz (by rw [show z = a from (List.mem_singleton.mp hb).symm.trans e.symm]; exact ha)⟩
          · rw [List.map_append]
            refine List.nodup_append.mpr ⟨tok.ndv, List.nodup_cons.mpr ⟨fun h => (nomatch h), List.nodup_nil⟩, fun a ha b hb e => ?_⟩
            obtain ⟨p, hp, ep⟩ := List.mem_map.mp ha
            exact no p hp (by rw [ep, e, List.mem_singleton.mp hb])
          · rw [List.take_add_one]
            exact List.mem_append.mpr (.inl (tin p hp))
          · rw [List.take_add_one, hz]
            exact List.mem_append.mpr (.inr (List.mem_singleton.mpr rfl))
        · walk_at "rd"
          exact ⟨_, _, rfl, b6, a6, t, hd6, tok, fun p hp => by rw [List.take_add_one]; exact List.mem_append.mpr (.inl (tin p hp)), by omega⟩
      · walk_at "rd"
        exact ⟨_, _, rfl, s03, hA3, t, hd3, tok, fun p hp => by rw [List.take_add_one]; exact List.mem_append.mpr (.inl (tin p hp)), by omega⟩
    · rintro σ H2 ⟨o3, o4, rfl, s2, hA2, t, hd2, tok, tin, tl⟩
      walk_at "rd"
      exact q d t H2 s2 hA2 nd0 hd2 tok
end
end K10
namespace K10
open PySem PySem.Spec PyProof.Rows L2 Bx TL Dx Zx Ow Sup NdefX Px
/-! ### the same solutions: the same normal form -/
theorem follows_congr {cs ds : List Cl} (h : ∀ f, B01 f → sat ds f = sat cs f) (c : Cl) : Follows ds c ↔ Follows cs c :=
  ⟨fun g f b s => g f b (by rw [h f b]; exact s), fun g f b s => g f b (by rw [← h f b]; exact s)⟩
theorem prime_congr {ns : List Str} {cs ds : List Cl} (h : ∀ f, B01 f → sat ds f = sat cs f) (c : Cl) : Prime ns ds c ↔ Prime ns cs c := by
  unfold Prime
  rw [follows_congr h]
  exact ⟨fun ⟨a, b, d⟩ => ⟨a, b, fun x hx z => d x hx ((follows_congr h _).mpr z)⟩, fun ⟨a, b, d⟩ => ⟨a, b, fun x hx z => d x hx ((follows_congr h _).mp z)⟩⟩
theorem rid_len {c : Cl} {x : Lit} (h : x ∈ c) : (rid c x).length < c.length := by
  unfold rid
  rcases Nat.lt_or_ge (c.filter fun y => decide (y ≠ x)).length c.length with l | l
  · exact l
  · have e := List.filter_eq_self.mp (List.filter_sublist.eq_of_length_le l)
    exact absurd rfl (of_decide_eq_true (e x h))
/-- each clause that follows holds a prime one -/
theorem has_prime {ns : List Str} {cs : List Cl} : ∀ (n : Nat) {c : Cl}, c.length ≤ n → Vc ns c → Follows cs c → ∃ p, Prime ns cs p ∧ ∀ l ∈ p, l ∈ c
  | n, c, hl, v, fo => by
    by_cases m : ∃ x ∈ c, Follows cs (rid c x)
    · obtain ⟨x, hx, fx⟩ := m
      have lt := rid_len hx
      cases n with
      | zero => exact absurd hl (by omega)
      | succ n =>
        obtain ⟨p, hp, sb⟩ := has_prime n (show (rid c x).length ≤ n by omega) (vc_rid v x) fx
        exact ⟨p, hp, fun l h => (List.mem_filter.mp (sb l h)).1⟩
    · exact ⟨c, ⟨v, fo, fun x hx z => m ⟨x, hx, z⟩⟩, fun l h => h⟩
theorem hold_sub {f : Str → Int} {c p : Cl} (h : ∀ l ∈ p, l ∈ c) (hp : hold f p = true) : hold f c = true := by
  unfold hold at hp ⊢
  obtain ⟨x, hx, e⟩ := List.any_eq_true.mp hp
  exact List.any_eq_true.mpr ⟨x, h x hx, e⟩
theorem norm_sat {ns : List Str} {cs E : List Cl} (v : ∀ c ∈ cs, Vc ns c) (h : ∀ c, c ∈ E ↔ Prime ns cs c) (f : Str → Int) (b : B01 f) : sat E f = sat cs f := by
  rw [Bool.eq_iff_iff]
  unfold sat
  rw [List.all_eq_true, List.all_eq_true]
  constructor
  · intro g c hc
    have fo : Follows cs c := fun f _ s => List.all_eq_true.mp s c hc
    obtain ⟨p, hp, sb⟩ := has_prime c.length (Nat.le_refl _) (v c hc) fo
    exact hold_sub sb (g p ((h p).mpr hp))
  · intro g c hc
    exact ((h c).mp hc).2.1 f b (List.all_eq_true.mpr g)
theorem norm_again {ns : List Str} {cs E : List Cl} (v : ∀ c ∈ cs, Vc ns c) (h : ∀ c, c ∈ E ↔ Prime ns cs c) (c : Cl) : Prime ns E c ↔ Prime ns cs c := prime_congr (norm_sat v h) c
/-! ### other names -/
section
variable {ns ys : List Str} {t : Tb}
theorem rn_some : ∀ {t : Tb} {z : Str}, (∃ p ∈ t, p.1 = z ∧ rn t z = p.2) ∨ ((∀ p ∈ t, p.1 ≠ z) ∧ rn t z = z)
  | [], z => .inr ⟨fun p hp => (nomatch hp), rfl⟩
  | x :: r, z => by
    unfold rn
    rw [List.find?_cons]
    by_cases e : x.1 = z
    · rw [decide_eq_true e]
      exact .inl ⟨x, List.mem_cons_self, e, rfl⟩
    · rw [decide_eq_false e]
      rcases rn_some (t := r) (z := z) with ⟨p, hp, h1, h2⟩ | ⟨h1, h2⟩
      · exact .inl ⟨p, List.mem_cons_of_mem _ hp, h1, h2⟩
      · refine .inr ⟨fun p hp => ?_, h2⟩
        rcases List.mem_cons.mp hp with rfl | hp
        · exact e
        · exact h1 p hp
theorem rn_inj (ok : TbOk ns t) {a b : Str} (ha : a ∈ ns) (hb : b ∈ ns) (h : rn t a = rn t b) : a = b := by
  have key : ∀ {l : Tb}, (l.map (·.2)).Nodup → ∀ {p q : Str × Str}, p ∈ l → q ∈ l → p.2 = q.2 → p = q := by
    intro l
    induction l with
    | nil => exact fun _ _ _ hp => nomatch hp
    | cons y d ih =>
      intro nd p q hp hq e
      obtain ⟨n1, n2⟩ := List.nodup_cons.mp nd
      rcases List.mem_cons.mp hp with e1 | hp <;> rcases List.mem_cons.mp hq with e2 | hq
      · rw [e1, e2]
      · exact (n1 (List.mem_map.mpr ⟨q, hq, by rw [← e1]; exact e.symm⟩)).elim
      · exact (n1 (List.mem_map.mpr ⟨p, hp, by rw [← e2]; exact e⟩)).elim
      · exact ih n2 hp hq e
  rcases rn_some (t := t) (z := a) with ⟨p, hp, p1, p2⟩ | ⟨n1, n2⟩ <;> rcases rn_some (t := t) (z := b) with ⟨q, hq, q1, q2⟩ | ⟨m1, m2⟩
  · have e := key ok.ndv hp hq (by rw [← p2, ← q2, h])
    rw [← p1, ← q1, e]
  · exact (ok.new p hp (by rw [← p2, h, m2]; exact hb)).elim
  · exact (ok.new q hq (by rw [← q2, ← h, n2]; exact ha)).elim
  · rw [← n2, h, m2]
theorem rn_okS (ok : TbOk ns t) (oks : ∀ z ∈ ns, PyData.strOk z = true) {z : Str} (hz : z ∈ ns) : PyData.strOk (rn t z) = true := by
  rcases rn_some (t := t) (z := z) with ⟨p, hp, _, p2⟩ | ⟨_, n2⟩
  · rw [p2]
    exact ok.ok p hp
  · rw [n2]
    exact oks z hz
theorem rnC_mem (c : Cl) (l : Lit) : l ∈ rnC t c ↔ ∃ x ∈ c, rnL t x = l := by
  unfold rnC
  rw [srt_mem, List.mem_map]
theorem rnC_vc (ok : TbOk ns t) (hy : ∀ x, x ∈ ys ↔ x ∈ ns.map (rn t)) {c : Cl} (v : Vc ns c) : Vc ys (rnC t c) := by
  refine ⟨srt_up ?_, fun l hl => ?_⟩
  · rw [List.map_map]
    have e : (c.map ((fun x : Lit => x.1) ∘ rnL t)) = (c.map (·.1)).map (rn t) := by
      rw [List.map_map]
      rfl
    rw [e]
    refine List.pairwise_map.mpr ?_
    refine (up_nd v.1).imp_of_mem fun {a b} ha hb h z => ?_
    obtain ⟨x, hx, rfl⟩ := List.mem_map.mp ha
    obtain ⟨y, hy2, rfl⟩ := List.mem_map.mp hb
    exact h (rn_inj ok (v.2 x hx).1 (v.2 y hy2).1 z)
  · obtain ⟨x, hx, rfl⟩ := (rnC_mem c l).mp hl
    exact ⟨(hy _).mpr (List.mem_map_of_mem (v.2 x hx).1), (v.2 x hx).2⟩
theorem hold_rnC (c : Cl) (f : Str → Int) : hold f (rnC t c) = hold (fun z => f (rn t z)) c := by
  unfold rnC
  rw [hold_srt]
  unfold hold
  rw [List.any_map]
  rfl
theorem sat_rnC : ∀ (cs : List Cl) (f : Str → Int), sat (cs.map (rnC t)) f = sat cs fun z => f (rn t z)
  | [], _ => rfl
  | c :: cs, f => by
    show (hold f (rnC t c) && sat (cs.map (rnC t)) f) = (hold _ c && sat cs _)
    rw [hold_rnC, sat_rnC cs]
theorem sat_same : ∀ {cs : List Cl} {f g : Str → Int}, (∀ c ∈ cs, Vc ns c) → (∀ z ∈ ns, f z = g z) → sat cs f = sat cs g
  | [], _, _, _, _ => rfl
  | c :: cs, f, g, v, h => by
    show (hold f c && sat cs f) = (hold g c && sat cs g)
    rw [hold_same fun l hl => h _ ((v c List.mem_cons_self).2 l hl).1, sat_same (fun d hd => v d (List.mem_cons_of_mem _ hd)) h]
/-- an old assignment under the new names -/
def back (ns : List Str) (t : Tb) (y : Str) : Str := (ns.find? fun z => decide (rn t z = y)).getD y
theorem back_rn (ok : TbOk ns t) {z : Str} (hz : z ∈ ns) : back ns t (rn t z) = z := by
  unfold back
  cases hf : ns.find? fun x => decide (rn t x = rn t z) with
  | none => exact absurd (decide_eq_true rfl) (List.find?_eq_none.mp hf z hz)
  | some x => exact rn_inj ok (List.mem_of_find?_eq_some hf) hz (of_decide_eq_true (List.find?_some hf :))
theorem follows_rn (ok : TbOk ns t) {cs : List Cl} {c : Cl} (v : ∀ c ∈ cs, Vc ns c) (vc : Vc ns c) : Follows (cs.map (rnC t)) (rnC t c) ↔ Follows cs c := by
  constructor
  · intro h f b s
    have q := h (fun y => f (back ns t y)) (fun y => b _) ?_
    · rw [hold_rnC] at q
      rw [← hold_same (f := fun z => f (back ns t (rn t z))) fun l hl => congrArg f (back_rn ok (vc.2 l hl).1)]
      exact q
    · rw [sat_rnC, sat_same v (g := f) fun z hz => congrArg f (back_rn ok hz)]
      exact s
  · intro h f b s
    rw [sat_rnC] at s
    rw [hold_rnC]
    exact h _ (fun z => b _) s
theorem rid_rn (ok : TbOk ns t) (hy : ∀ x, x ∈ ys ↔ x ∈ ns.map (rn t)) {c : Cl} (v : Vc ns c) {x : Lit} (hx : x ∈ c) : rid (rnC t c) (rnL t x) = rnC t (rid c x) := by
  refine up_same (vc_rid (rnC_vc ok hy v) _).1 (rnC_vc ok hy (vc_rid v x)).1 fun l => ?_
  rw [rnC_mem]
  unfold rid
  rw [List.mem_filter, rnC_mem]
  constructor
  · rintro ⟨⟨w, hw, rfl⟩, h⟩
    have h2 := of_decide_eq_true h
    exact ⟨w, List.mem_filter.mpr ⟨hw, decide_eq_true fun e => h2 (by rw [e])⟩, rfl⟩
  · rintro ⟨w, hw, rfl⟩
    obtain ⟨h1, h2⟩ := List.mem_filter.mp hw
    refine ⟨⟨w, h1, rfl⟩, decide_eq_true fun e => of_decide_eq_true h2 ?_⟩
    have e1 : rn t w.1 = rn t x.1 := (congrArg Prod.fst e : (rnL t w).1 = (rnL t x).1)
    have e2 : w.2 = x.2 := (congrArg Prod.snd e : (rnL t w).2 = (rnL t x).2)
    exact Prod.ext (rn_inj ok (v.2 w h1).1 (v.2 x hx).1 e1) e2
theorem rn_onto (ok : TbOk ns t) (hy : ∀ x, x ∈ ys ↔ x ∈ ns.map (rn t)) {c' : Cl} (v : Vc ys c') : ∃ c, Vc ns c ∧ rnC t c = c' := by
  have src : ∀ y ∈ ys, back ns t y ∈ ns ∧ rn t (back ns t y) = y := fun y h => by
    obtain ⟨z, hz, rfl⟩ := List.mem_map.mp ((hy y).mp h)
    rw [back_rn ok hz]
    exact ⟨hz, rfl⟩
  have vc : Vc ns ((c'.map fun l => (back ns t l.1, l.2)).mergeSort lle) := by
    refine ⟨srt_up ?_, fun l hl => ?_⟩
    · rw [List.map_map]
      have e : (c'.map ((fun x : Lit => x.1) ∘ fun l => (back ns t l.1, l.2))) = (c'.map (·.1)).map (back ns t) := by
        rw [List.map_map]
        rfl
      rw [e]
      refine List.pairwise_map.mpr ?_
      refine (up_nd v.1).imp_of_mem fun {a b} ha hb h z => ?_
      obtain ⟨x, hx, rfl⟩ := List.mem_map.mp ha
      obtain ⟨y, hy2, rfl⟩ := List.mem_map.mp hb
      refine h ?_
      rw [← (src _ (v.2 x hx).1).2, ← (src _ (v.2 y hy2).1).2, z]
    · obtain ⟨x, hx, rfl⟩ := List.mem_map.mp ((srt_mem _ _).mp hl)
      exact ⟨(src _ (v.2 x hx).1).1, (v.2 x hx).2⟩
  refine ⟨_, vc, up_same (rnC_vc ok hy vc).1 v.1 fun l => ?_⟩
  rw [rnC_mem]
  constructor
  · rintro ⟨x, hx, rfl⟩
    obtain ⟨w, hw, rfl⟩ := List.mem_map.mp ((srt_mem _ _).mp hx)
    show (rn t (back ns t w.1), w.2) ∈ c'
    rw [(src _ (v.2 w hw).1).2]
    exact hw
  · intro hl
    refine ⟨(back ns t l.1, l.2), (srt_mem _ _).mpr (List.mem_map.mpr ⟨l, hl, rfl⟩), ?_⟩
    show (rn t (back ns t l.1), l.2) = l
    rw [(src _ (v.2 l hl).1).2]
theorem rnC_inj (ok : TbOk ns t) {c d : Cl} (vc : Vc ns c) (vd : Vc ns d) (h : rnC t c = rnC t d) : c = d := by
  have one : ∀ {c d : Cl}, Vc ns c → Vc ns d → rnC t c = rnC t d → ∀ l ∈ c, l ∈ d := fun {c d} vc vd h l hl => by
    have m : rnL t l ∈ rnC t d := by
      rw [← h]
      exact (rnC_mem c _).mpr ⟨l, hl, rfl⟩
    obtain ⟨x, hx, e⟩ := (rnC_mem d _).mp m
    have e1 : rn t x.1 = rn t l.1 := (congrArg Prod.fst e : (rnL t x).1 = (rnL t l).1)
    have e2 : x.2 = l.2 := (congrArg Prod.snd e : (rnL t x).2 = (rnL t l).2)
    have ex : x = l := Prod.ext (rn_inj ok (vd.2 x hx).1 (vc.2 l hl).1 e1) e2
    exact ex ▸ hx
  exact up_same vc.1 vd.1 fun l => ⟨one vc vd h l, one vd vc h.symm l⟩
theorem prime_rn (ok : TbOk ns t) (hy : ∀ x, x ∈ ys ↔ x ∈ ns.map (rn t)) {cs E : List Cl} (v : ∀ c ∈ cs, Vc ns c) (hE : ∀ c, c ∈ E ↔ Prime ns cs c) (c' : Cl) : c' ∈ E.map (rnC t) ↔ Prime ys (cs.map (rnC t)) c' := by
  rw [List.mem_map]
  have fwd : ∀ c, Vc ns c → (Prime ns cs c ↔ Prime ys (cs.map (rnC t)) (rnC t c)) := fun c vc => by
    unfold Prime
    rw [follows_rn ok v vc]
    constructor
    · rintro ⟨_, fo, m⟩
      refine ⟨rnC_vc ok hy vc, fo, fun x' hx' z => ?_⟩
      obtain ⟨x, hx, rfl⟩ := (rnC_mem c x').mp hx'
      rw [rid_rn ok hy vc hx, follows_rn ok v (vc_rid vc x)] at z
      exact m x hx z
    · rintro ⟨_, fo, m⟩
      refine ⟨vc, fo, fun x hx z => m (rnL t x) ((rnC_mem c _).mpr ⟨x, hx, rfl⟩) ?_⟩
      rw [rid_rn ok hy vc hx, follows_rn ok v (vc_rid vc x)]
      exact z
  constructor
  · rintro ⟨c, hc, rfl⟩
    have p := (hE c).mp hc
    exact (fwd c p.1).mp p
  · intro p
    obtain ⟨c, vc, rfl⟩ := rn_onto ok hy p.1
    exact ⟨c, (hE c).mpr ((fwd c vc).mpr p), rfl⟩
theorem rn_nodup (ok : TbOk ns t) {E : List Cl} (nd : E.Nodup) (v : ∀ c ∈ E, Vc ns c) : (E.map (rnC t)).Nodup :=
  List.pairwise_map.mpr (nd.imp_of_mem fun {a b} ha hb h z => h (rnC_inj ok (v a ha) (v b hb) z))
/-- the clause of all names -/
theorem names_rn (ok : TbOk ns t) (asc : Asc ns) (hy : ∀ x, x ∈ ys ↔ x ∈ ns.map (rn t)) (ay : Asc ys) : (rnC t (ns.map fun z => (z, (1 : Int)))).map (·.1) = ys := by
  have v : Vc ns (ns.map fun z => (z, (1 : Int))) := by
    refine ⟨List.pairwise_map.mpr asc, fun l hl => ?_⟩
    obtain ⟨z, hz, rfl⟩ := List.mem_map.mp hl
    exact ⟨hz, .inr rfl⟩
  have u := (rnC_vc ok hy v).1
  refine asc_eq (List.pairwise_map.mpr u) ay fun x => ?_
  rw [hy, List.mem_map, List.mem_map]
  constructor
  · rintro ⟨l, hl, rfl⟩
    obtain ⟨w, hw, rfl⟩ := (rnC_mem _ _).mp hl
    obtain ⟨z, hz, rfl⟩ := List.mem_map.mp hw
    exact ⟨z, hz, rfl⟩
  · rintro ⟨z, hz, rfl⟩
    exact ⟨(rn t z, 1), (rnC_mem _ _).mpr ⟨(z, 1), List.mem_map.mpr ⟨z, hz, rfl⟩, rfl⟩, rfl⟩
end
/-! ### units -/
def units (ns : List Str) (a : Str → Int) : List Cl := ns.map fun z => [(z, a z)]
theorem units_vc {ns : List Str} {a : Str → Int} (b : B01 a) : ∀ c ∈ units ns a, Vc ns c := fun c hc => by
  obtain ⟨z, hz, rfl⟩ := List.mem_map.mp hc
  exact ⟨List.pairwise_singleton _ _, fun l hl => by rw [List.mem_singleton.mp hl]; exact ⟨hz, b z⟩⟩
theorem units_sat {ns : List Str} {a f : Str → Int} : sat (units ns a) f = true ↔ ∀ z ∈ ns, f z = a z := by
  unfold sat units
  rw [List.all_map, List.all_eq_true]
  constructor
  · intro h z hz
    have q := h z hz
    have q2 : (decide (f z = a z) || false) = true := q
    rw [Bool.or_false] at q2
    exact of_decide_eq_true q2
  · intro h z hz
    show (decide (f z = a z) || false) = true
    rw [Bool.or_false]
    exact decide_eq_true (h z hz)
theorem units_follows {ns : List Str} {a : Str → Int} (b : B01 a) {c : Cl} (v : Vc ns c) : Follows (units ns a) c ↔ hold a c = true := by
  constructor
  · exact fun h => h a b (units_sat.mpr fun z _ => rfl)
  · intro h f _ s
    rw [hold_same (g := a) fun l hl => units_sat.mp s _ (v.2 l hl).1]
    exact h
theorem units_prime {ns : List Str} {a : Str → Int} (b : B01 a) (c : Cl) : Prime ns (units ns a) c ↔ c ∈ units ns a := by
  constructor
  · rintro ⟨v, fo, m⟩
    have h := (units_follows b v).mp fo
    unfold hold at h
    obtain ⟨x, hx, e⟩ := List.any_eq_true.mp h
    have ex := of_decide_eq_true e
    have only : ∀ y ∈ c, y = x := fun y hy => by
      by_cases yx : y = x
      · exact yx
      · refine (m y hy ((units_follows b (vc_rid v y)).mpr ?_)).elim
        unfold hold rid
        exact List.any_eq_true.mpr ⟨x, List.mem_filter.mpr ⟨hx, decide_eq_true fun z => yx z.symm⟩, e⟩
    have ec : c = [x] := up_same v.1 (List.pairwise_singleton _ _) fun l => ⟨fun hl => List.mem_singleton.mpr (only l hl), fun hl => by rw [List.mem_singleton.mp hl]; exact hx⟩
    rw [ec]
    exact List.mem_map.mpr ⟨x.1, (v.2 x hx).1, by rw [ex]⟩
  · intro hc
    have v := units_vc b c hc
    refine ⟨v, fun f _ s => List.all_eq_true.mp s c hc, fun x hx fo => ?_⟩
    obtain ⟨z, hz, rfl⟩ := List.mem_map.mp hc
    have h := (units_follows b (vc_rid v x)).mp fo
    have ex := List.mem_singleton.mp hx
    subst ex
    simp [rid, hold] at h
theorem units_sorted {ns : List Str} {a : Str → Int} (asc : Asc ns) {L : List Cl} (nd : L.Nodup) (h : ∀ c, c ∈ L ↔ c ∈ units ns a) : L.mergeSort cle = units ns a := by
  have nu : (units ns a).Nodup := List.pairwise_map.mpr ((asc_nd asc).imp fun {x y} h e => h (congrArg Prod.fst (List.cons.inj e).1))
  refine sorted_is ((List.perm_ext_iff_of_nodup nd nu).mpr h) (List.pairwise_map.mpr (List.Pairwise.imp ?_ asc))
  intro x y hxy
  rw [cle_eq, cl_lt]
  have ne : (y, a y) ≠ (x, a x) := fun e => by
    have e1 : y = x := congrArg Prod.fst e
    rw [e1] at hxy
    exact List.lt_irrefl _ hxy
  rw [if_neg ne, lit_lt]
  have ne1 : ¬ (y, a y).1 = (x, a x).1 := fun (e1 : y = x) => by
    rw [e1] at hxy
    exact List.lt_irrefl _ hxy
  rw [if_neg ne1]
  have nl : ¬ y.cps.toList < x.cps.toList := fun h => List.lt_irrefl _ (List.lt_trans h hxy)
  show (!decide (y.cps.toList < x.cps.toList)) = true
  rw [decide_eq_false nl]
  rfl
end K10
namespace K10
local macro_rules | `(tactic| walk_at "rd") => `(tactic| repeat (first | refine ⟨rfl, ?_⟩ | refine ⟨_, rfl, ?_⟩ | refine ⟨_, _, rfl, rfl, ?_⟩ | refine ⟨⟨_, rfl⟩, ?_⟩))
open PySem PySem.Spec PyProof.Rows L2 Bx TL Dx Zx Ow Sup NdefX Px
theorem pe_mth0 {X : Cx} {C : Addr} {k : Nat} {ps : List Str} {sp : Sp} {m : Str} {o : Expr} {to : TE} {apos pos : Pos} {pl : Sem Bool} (c : MthC X.prog X.w X.K X.mg X.base C m k ps sp) (hr : Room k X.A) (ho : PE X o to)
    (ht : eval (.Call (.Attribute o m apos) [] [] pos) X.env = (do
      let ov ← eval o X.env
      standAt apos.atName
      let (f, first) ← holding [ov] (getMethod ov m pl)
      callWith pos f first (backTo pos (starEach [] X.env)) (backToKw pos (keywordEach [] X.env))) := by rfl) : PE X (.Call (.Attribute o m apos) [] [] pos) (tMeth C m sp [] E0 to tNil) := by
  obtain ⟨f, fd, cl, mt, ok, b⟩ := c.ex
  exact pe_meth0 (E := E0) ho cl mt ok hr b .nil pass0 ht
theorem bare_new {H : Hp} {C k dk : Addr} (nk : H k = none) (nd : H dk = none) (ne : dk ≠ k) : Same H (upd (upd H dk (.own k)) k (.ins C dk [])) ∧ (upd (upd H dk (.own k)) k (.ins C dk [])) k = some (.ins C dk []) :=
  ⟨Same.trans (same_new nd) (same_new (by rw [upd_ne (Ne.symm ne)]; exact nk)), upd_same⟩
abbrev As := List (Str × Int)
def asV (l : As) : List (Key × V) := l.map fun p => (.inr p.1, .int p.2)
def vl (l : As) (z : Str) : Int := ((l.find? fun p => decide (p.1 = z)).map (·.2)).getD 0
theorem val_as : ∀ (l : As) (z : Str), valV (asV l) (.inr z) = ((l.find? fun p => decide (p.1 = z)).map (·.2)).map V.int
  | [], _ => rfl
  | p :: r, z => by
    have ih := val_as r z
    by_cases e : p.1 = z
    · have e2 : ((.inr p.1 : Key), V.int p.2).1 = .inr z := congrArg Sum.inr e
      show valV (((.inr p.1 : Key), V.int p.2) :: asV r) (.inr z) = _
      rw [valV_pos e2, List.find?_cons, decide_eq_true e]
      rfl
    · have e2 : ¬ ((.inr p.1 : Key), V.int p.2).1 = .inr z := fun h => e (Sum.inr.inj h)
      show valV (((.inr p.1 : Key), V.int p.2) :: asV r) (.inr z) = _
      rw [valV_neg e2, List.find?_cons, decide_eq_false e]
      exact ih
theorem has_as {l : As} {z : Str} (h : z ∈ l.map (·.1)) : valV (asV l) (.inr z) = some (.int (vl l z)) := by
  rw [val_as]
  unfold vl
  cases e : l.find? fun p => decide (p.1 = z) with
  | none =>
    obtain ⟨p, hp, rfl⟩ := List.mem_map.mp h
    have := List.find?_eq_none.mp e p hp
    simp at this
  | some p => rfl
theorem put_as {l : As} {z : Str} {v : Int} (h : z ∉ l.map (·.1)) : putK (asV l) (.inr z) (.int v) = asV (l ++ [(z, v)]) := by
  rw [put_new fun kv hk => ?_]
  · unfold asV
    rw [List.map_append]
    rfl
  · obtain ⟨p, hp, rfl⟩ := List.mem_map.mp hk
    exact fun z2 => h (List.mem_map.mpr ⟨p, hp, Sum.inr.inj z2⟩)
theorem vl_bit {l : As} (h : ∀ p ∈ l, p.2 = 0 ∨ p.2 = 1) : B01 (vl l) := fun z => by
  unfold vl
  cases e : l.find? fun p => decide (p.1 = z) with
  | none => exact .inl rfl
  | some p => exact h p (List.mem_of_find?_eq_some e)
section
variable {P : Program} {w : World} {K : PySem.W.Frag} {mg : Str → Option Value} {base : Heap}
def spLaw (K : PySem.W.Frag) : Sp := fun vs H Q _ => ∃ (a : Addr) (ns : List Int), vs = [.ref a] ∧ SqL K H a (ns.map V.int) ∧ ns.length ≤ 63 ∧ ∀ H', Q (.bl true) H'
set_option maxHeartbeats 4000000 in
theorem ok_law {C : Addr} {f : Addr} {fd : FuncData} (F : Fun K "law" "law" s_law f fd) (m_tuple : mg "tuple" = none) (m_sorted : mg "sorted" = none) (B_Bits : Mk0.Bare K mg "Bits" C)
    (M_normal : MthC P w K mg base C "normal" 8 ["self", "theory"] (spNorm K)) (M_rename : MthC P w K mg base C "rename" 2 ["self", "theory", "table"] (spRen K)) (M_pin : MthC P w K mg base C "pin" 1 ["self", "names", "assignment"] (spPin K)) (M_contradiction : MthC P w K mg base C "contradiction" 1 ["self"] (spContr K))
    (C__law_source : Cal P w K mg base "_law_source" 1 ["_law_script", "_law_k"] (spSource K)) (C__law_draw : CDraw P w K mg base) (C__law_names : Cal P w K mg base "_law_names" 2 ["_law_source_here", "_law_most"] (spNames K)) (C__law_clauses : Cal P w K mg base "_law_clauses" 2 ["_law_source_here", "_law_names_here"] (spClauses K))
    (C__law_normal : Cal P w K mg base "_law_normal" 3 ["_law_names_here", "_law_clauses_here"] (spLNorm K)) (C__law_is : Cal P w K mg base "_law_is" 1 ["_law_actual", "_law_names_here", "_law_clauses_here"] (spLIs K)) (C__law_same_solutions : Cal P w K mg base "_law_same_solutions" 2 ["_law_source_here", "_law_names_here", "_law_clauses_here"] (spSame K))
    (C__law_table : Cal P w K mg base "_law_table" 2 ["_law_source_here", "_law_names_here"] (spTable K)) (C__law_renamed : Cal P w K mg base "_law_renamed" 2 ["_law_table_here", "_law_clauses_here"] (spLRen K)) : FnOk P w K mg base CX0 9 f fd ["_law_script"] (spLaw K) := by
  refine F.ok sc_law (fun vs H Q E h => ?_) (fun cdv A outer s H vs Q E hr h => ?_)
  · unfold spLaw at h
    obtain ⟨a, ns, rfl, _⟩ := h
    rfl
  · unfold spLaw at h
    obtain ⟨sa, sc, rfl, hs, hsl, q⟩ := h
    have hu := hu_of hr
    refine ⟨_, (pss_cons (ps_set (i := 1) sc_law.nd rfl (Or.inl rfl) (pe_cal C__law_source (hr.mono (by decide)) (pa_cons (pv 0) (pa_cons pe_int pa_nil))))
    (pss_cons (ps_set (i := 2) sc_law.nd rfl (Or.inl rfl) (pe_cal C__law_names (hr.mono (by decide)) (pa_cons (pv 1) (pa_cons pe_int pa_nil))))
    (pss_cons (ps_set (i := 3) sc_law.nd rfl (Or.inl rfl) (pe_cal C__law_clauses (hr.mono (by decide)) (pa_cons (pv 1) (pa_cons (pv 2) pa_nil))))
    (pss_cons (ps_set (i := 4) sc_law.nd rfl (Or.inl rfl) (pe_cal C__law_normal (hr.mono (by decide)) (pa_cons (pv 2) (pa_cons (pv 3) pa_nil))))
    (pss_cons (ps_set (i := 5) sc_law.nd rfl (Or.inl rfl) (pe_mth M_normal (hr.mono (by decide)) (Mk0.pe_bare B_Bits) (pa_cons (pe_tup (pa_cons (pv 2) (pa_cons (pe_callTy (T := "tuple") call_tuple_of (by rfl) m_tuple (by decide +kernel) (pa_cons (pv 3) pa_nil)) pa_nil))) pa_nil) (ht := mcall_of (abase_call (by decide +kernel)) (fun _ => rfl))))
    (pss_cons (ps_if (PW.pt (pw_or (pt_not (pt_val (pe_cal C__law_is (hr.mono (by decide)) (pa_cons (pv 5) (pa_cons (pv 2) (pa_cons (pv 4) pa_nil)))))) (pw_or1 (pt_not (pt_val (pe_cal C__law_is (hr.mono (by decide)) (pa_cons (pe_mth M_normal (hr.mono (by decide)) (Mk0.pe_bare B_Bits) (pa_cons (pv 5) pa_nil) (ht := mcall_of (abase_call (by decide +kernel)) (fun _ => rfl))) (pa_cons (pv 2) (pa_cons (pv 4) pa_nil)))))))))
      (pss_one (ps_ret pe_bl))
      pss_nil)
    (pss_cons (ps_set (i := 1) sc_law.nd rfl (Or.inl rfl) (pe_cal C__law_source (hr.mono (by decide)) (pa_cons (pv 0) (pa_cons pe_int pa_nil))))
    (pss_cons (ps_set (i := 6) sc_law.nd rfl (Or.inl rfl) (pe_cal C__law_same_solutions (hr.mono (by decide)) (pa_cons (pv 1) (pa_cons (pv 2) (pa_cons (pv 3) pa_nil)))))
    (pss_cons (ps_if (pt_not (pt_val (pe_cal C__law_is (hr.mono (by decide)) (pa_cons (pe_mth M_normal (hr.mono (by decide)) (Mk0.pe_bare B_Bits) (pa_cons (pe_tup (pa_cons (pv 2) (pa_cons (pe_callTy (T := "tuple") call_tuple_of (by rfl) m_tuple (by decide +kernel) (pa_cons (pv 6) pa_nil)) pa_nil))) pa_nil) (ht := mcall_of (abase_call (by decide +kernel)) (fun _ => rfl))) (pa_cons (pv 2) (pa_cons (pv 4) pa_nil))))))
      (pss_one (ps_ret pe_bl))
      pss_nil)
    (pss_cons (ps_set (i := 7) sc_law.nd rfl (Or.inl rfl) (pe_cal C__law_table (hr.mono (by decide)) (pa_cons (pv 1) (pa_cons (pv 2) pa_nil))))
    (pss_cons (ps_set (i := 8) sc_law.nd rfl (Or.inl rfl) (pe_cal C__law_renamed (hr.mono (by decide)) (pa_cons (pv 7) (pa_cons (pe_lst (pa_cons (pe_callTy (T := "tuple") call_tuple_of (by rfl) m_tuple (by decide +kernel) (pa_cons (pe_lc (own := [("_law_name", 12)]) (tt := tYes) rfl sc_law.nd (pi_tup (pv 2)) (blkOk_by (N := n_law) (sc := defScope s_law) (by decide +kernel)) (fun _ _ _ _ _ => pg_name (i := 12) sc_law.nd rfl (Or.inl rfl)) (fun _ _ _ _ _ => pts_nil) (fun _ _ _ _ _ => (pe_tup (pa_cons (pv 12) (pa_cons pe_int pa_nil))))) pa_nil)) pa_nil)) pa_nil))))
    (pss_cons (ps_set (i := 9) sc_law.nd rfl (Or.inl rfl) (pe_callTy (T := "tuple") call_tuple_of (by rfl) m_tuple (by decide +kernel) (pa_cons (pe_lc (own := [("_law_literal", 14)]) (tt := tYes) rfl sc_law.nd (pi_tup (pe_ix ix_list (pv 8) pe_int (fun _ _ => rfl))) (blkOk_by (N := n_law) (sc := defScope s_law) (by decide +kernel)) (fun _ _ _ _ _ => pg_name (i := 14) sc_law.nd rfl (Or.inl rfl)) (fun _ _ _ _ _ => pts_nil) (fun _ _ _ _ _ => (pe_ix (ix_tupK (K := K) rfl) (pv 14) pe_int (fun _ _ => rfl)))) pa_nil)))
    (pss_cons (ps_set (i := 10) sc_law.nd rfl (Or.inl rfl) (pe_mth M_rename (hr.mono (by decide)) (Mk0.pe_bare B_Bits) (pa_cons (pe_tup (pa_cons (pv 2) (pa_cons (pe_callTy (T := "tuple") call_tuple_of (by rfl) m_tuple (by decide +kernel) (pa_cons (pv 3) pa_nil)) pa_nil))) (pa_cons (pv 7) pa_nil)) (ht := mcall_of (abase_call (by decide +kernel)) (fun _ => rfl))))
    (pss_cons (ps_if (pt_not (pt_val (pe_cal C__law_is (hr.mono (by decide)) (pa_cons (pv 10) (pa_cons (pv 9) (pa_cons (pe_cal C__law_renamed (hr.mono (by decide)) (pa_cons (pv 7) (pa_cons (pv 3) pa_nil))) pa_nil))))))
      (pss_one (ps_ret pe_bl))
      pss_nil)
    (pss_cons (ps_if (pt_not (pt_val (pe_cal C__law_is (hr.mono (by decide)) (pa_cons (pe_mth M_normal (hr.mono (by decide)) (Mk0.pe_bare B_Bits) (pa_cons (pv 10) pa_nil) (ht := mcall_of (abase_call (by decide +kernel)) (fun _ => rfl))) (pa_cons (pv 9) (pa_cons (pe_callB (id := "sorted") (Sd.cr_sortT (room hr)) (by rfl) m_sorted (by decide +kernel) (pa_cons (pe_cal C__law_renamed (hr.mono (by decide)) (pa_cons (pv 7) (pa_cons (pv 4) pa_nil))) pa_nil)) pa_nil))))))
      (pss_one (ps_ret pe_bl))
      pss_nil)
    (pss_cons (ps_set (i := 11) sc_law.nd rfl (Or.inr rfl) pe_dnewK)
    (pss_cons (ps_for PassesOwn.never rfl (pi_tup (pv 2)) (pg_name (i := 12) sc_law.nd rfl (Or.inl rfl))
      (pss_one (ps_dput hu (pv 11) (pv 12) (pe_cal C__law_draw (hr.mono (by decide)) (pa_cons (pv 1) (pa_cons pe_int pa_nil))) rfl)))
    (pss_cons (ps_setLc (i := 13) (own := [("_law_name", 12)]) (tt := tYes) rfl sc_law.nd rfl rfl (sw_true rfl rfl rfl (by decide +kernel)) (pi_tup (pv 2)) (blkOk_by (N := n_law) (sc := defScope s_law) (by decide +kernel)) (fun _ _ _ _ _ => pg_name (i := 12) sc_law.nd rfl (Or.inl rfl)) (fun _ _ _ _ _ => pts_nil) (fun _ _ _ _ _ => (pe_tup (pa_cons (pe_tup (pa_cons (pv 12) (pa_cons (pe_dget hu (pv 11) (pv 12) (fun _ _ => rfl)) pa_nil))) pa_nil))))
    (pss_cons (ps_set (i := 5) sc_law.nd rfl (Or.inl rfl) (pe_mth M_pin (hr.mono (by decide)) (Mk0.pe_bare B_Bits) (pa_cons (pv 2) (pa_cons (pv 11) pa_nil)) (ht := mcall_of (abase_call (by decide +kernel)) (fun _ => rfl))))
    (pss_cons (ps_if (PW.pt (pw_or (pt_not (pt_val (pe_cal C__law_is (hr.mono (by decide)) (pa_cons (pv 5) (pa_cons (pv 2) (pa_cons (pv 13) pa_nil)))))) (pw_or1 (pt_not (pt_val (pe_cal C__law_is (hr.mono (by decide)) (pa_cons (pe_mth M_normal (hr.mono (by decide)) (Mk0.pe_bare B_Bits) (pa_cons (pv 5) pa_nil) (ht := mcall_of (abase_call (by decide +kernel)) (fun _ => rfl))) (pa_cons (pv 2) (pa_cons (pv 13) pa_nil)))))))))
      (pss_one (ps_ret pe_bl))
      pss_nil)
    (pss_one (ps_ret (pe_cmpR (op_eqD hr.units) (pe_mth0 M_contradiction (hr.mono (by decide)) (Mk0.pe_bare B_Bits) (ht := mcall_of (abase_call (by decide +kernel)) (fun _ => rfl))) (pe_tup pa_nil) (nomark _)))))))))))))))))))))))), ?_⟩
    walk_at "rd"
    refine ⟨sa, sc, 0, rfl, hs, by decide, fun s0 n0 c0 ns0 => ?_⟩
    have u0 := same_new ns0 (o := .lst [.int n0, .int c0])
    have hA0 : Src (upd H s0 (.lst [.int n0, .int c0])) s0 := ⟨n0, c0, upd_same⟩
    generalize upd H s0 (.lst [.int n0, .int c0]) = H0 at u0 hA0 ⊢
    walk_at "rd"
    show spNames K _ _ _ _
    unfold spNames
    refine ⟨s0, 4, rfl, hA0, by decide, fun na ns H1 b1 hA1 hna asc tx nl => ?_⟩
    walk_at "rd"
    show spClauses K _ _ _ _
    unfold spClauses
    refine ⟨s0, na, ns, rfl, hA1, hna, asc, by omega, fun ca xs cs H2 b2 hA2 nca hca hd lc vc => ?_⟩
    have u2 : Same H H2 := Bx.SameBut.same u0 ns0 (b1.trans b2)
    have xl : xs.length = cs.length := by rw [da_len hd, List.length_map]
    have hna2 := sqt_but hA1 b2 hna
    have nd := asc_nd asc
    have okn : ∀ z ∈ ns, PyData.strOk z = true := fun z hz => (tx z hz).ok
    have okc : ∀ c ∈ cs, OkC c := fun c hc => ok_vc okn (vc c hc)
    have okP : ∀ {ds : List Cl}, ∀ c, Prime ns ds c → OkC c := fun c p => ok_vc okn p.1
    have hs2 := Same.seq u2 hs
    clear u2 b2 hA2 hna hA1 b1 u0 hA0 nca hs
    walk_at "rd"
    show spLNorm K _ _ _ _
    unfold spLNorm
    refine ⟨na, ca, ns, xs, cs, rfl, hna2, sq hca, hd, nl, okn, asc, vc, by omega, fun e es L0 H3 s3 ne he de nd0 mem0 => ?_⟩
    walk_at "rd"
    refine fun k1 dk1 nk1 nd1 ne1 => ?_
    obtain ⟨u4, hk1⟩ := bare_new (C := C) nk1 nd1 ne1
    generalize upd (upd H3 dk1 (.own k1)) k1 (.ins C dk1 []) = H4 at u4 hk1 ⊢
    have s24 := s3.trans u4
    refine ⟨k1, dk1, [], rfl, hk1, rfl, ?_⟩
    walk_at "rd"
    refine ⟨ca, xs, rfl, .inl ⟨sq (s24 _ _ hca), fun tc ntc => ?_⟩⟩
    have u5 := same_new ntc (o := .tup xs)
    have htc := upd_same (H := H4) (a := tc) (o := .tup xs)
    generalize upd H4 tc (.tup xs) = H5 at u5 htc ⊢
    walk_at "rd"
    refine ⟨sz (by show 2 ≤ 100000; decide), fun T1 nT1 => ?_⟩
    have u6 := same_new nT1 (o := .tup [.ref na, .ref tc])
    have hT1 := upd_same (H := H5) (a := T1) (o := .tup [.ref na, .ref tc])
    generalize upd H5 T1 (.tup [.ref na, .ref tc]) = H6 at u6 hT1 ⊢
    have s26 := s24.trans (u5.trans u6)
    walk_at "rd"
    show spNorm K _ _ _ _
    unfold spNorm
    refine ⟨k1, T1, na, tc, ns, xs, cs, rfl, sqt hT1, Bx.Same.tup s26 hna2, Bx.Same.tup u6 (sqt htc), dpAll_same s26 hd, nl, okn, asc, vc, by omega, fun R1 pr1 us1 L1 H7 s7 hR1 hpr1 d1 nd1' mem1 l1 => ?_⟩
    have E1 : L1.mergeSort cle = L0.mergeSort cle := same_sorts nd1' nd0 fun c => by rw [mem1, mem0]
    have El : (L0.mergeSort cle).length ≤ 243 := by
      rw [← E1, List.length_mergeSort]
      exact l1
    have memE : ∀ c, c ∈ L0.mergeSort cle ↔ Prime ns cs c := fun c => by rw [(List.mergeSort_perm L0 cle).mem_iff, mem0]
    have ndE : (L0.mergeSort cle).Nodup := (List.mergeSort_perm L0 cle).nodup_iff.mpr nd0
    have sortE : ∀ {L : List Cl}, L.Nodup → (∀ c, c ∈ L ↔ Prime ns cs c) → L.mergeSort cle = L0.mergeSort cle := fun n m => same_sorts n nd0 fun c => by rw [m, mem0]
    rw [E1] at d1
    generalize L0.mergeSort cle = E0 at de d1 El memE ndE sortE
    have okE : ∀ c ∈ E0, OkC c := fun c hc => ok_vc okn ((memE c).mp hc).1
    have vE : ∀ c ∈ E0, Vc ns c := fun c hc => ((memE c).mp hc).1
    have s27 := s26.trans s7
    have s37 := u4.trans (u5.trans (u6.trans s7))
    walk_at "rd"
    show spLIs K _ _ _ _
    unfold spLIs
    refine ⟨R1, na, pr1, na, e, ns, us1, es, E0, rfl, hR1, Bx.Same.tup s27 hna2, hpr1, d1, Bx.Same.tup s27 hna2, sq (s37 _ _ he), dpAll_same s37 de, okn, okE, by omega, ?_⟩
    walk_at "rd"
    refine fun k2 dk2 nk2 nd2 ne2 => ?_
    obtain ⟨u8, hk2⟩ := bare_new (C := C) nk2 nd2 ne2
    generalize upd (upd H7 dk2 (.own k2)) k2 (.ins C dk2 []) = H8 at u8 hk2 ⊢
    refine ⟨k2, dk2, [], rfl, hk2, rfl, ?_⟩
    walk_at "rd"
    refine ⟨k2, R1, na, pr1, ns, us1, E0, rfl, Bx.Same.tup u8 hR1, Bx.Same.tup (s27.trans u8) hna2, Bx.Same.tup u8 hpr1, dpAll_same u8 d1, nl, okn, asc, vE, by omega, fun R2 pr2 us2 L2' H9 s9 hR2 hpr2 d2 nd2' mem2 l2 => ?_⟩
    rw [sortE nd2' fun c => by rw [mem2, norm_again vc memE]] at d2
    have s79 := u8.trans s9
    have s29 := s27.trans s79
    have s39 := s37.trans s79
    walk_at "rd"
    refine ⟨R2, na, pr2, na, e, ns, us2, es, E0, rfl, hR2, Bx.Same.tup s29 hna2, hpr2, d2, Bx.Same.tup s29 hna2, sq (s39 _ _ he), dpAll_same s39 de, okn, okE, by omega, ?_⟩
    -- the same solutions
    walk_at "rd"
    refine ⟨sa, sc, 1, rfl, Same.seq s29 hs2, by decide, fun s1 n1 c1 ns1 => ?_⟩
    have u10 := same_new ns1 (o := .lst [.int n1, .int c1])
    have hA10 : Src (upd H9 s1 (.lst [.int n1, .int c1])) s1 := ⟨n1, c1, upd_same⟩
    generalize upd H9 s1 (.lst [.int n1, .int c1]) = H10 at u10 hA10 ⊢
    have hna9 := Bx.Same.tup s29 hna2
    have hca9 := s29 _ _ hca
    have hd9 := dpAll_same s29 hd
    have he9 := s39 _ _ he
    have de9 := dpAll_same s39 de
    clear s29 s39 s79 s37 s27 s26 s24 hna2 hca hd he de
    walk_at "rd"
    show spSame K _ _ _ _
    unfold spSame
    refine ⟨s1, na, ca, ns, xs, cs, rfl, hA10, Bx.Same.tup u10 hna9, sq (u10 _ _ hca9), dpAll_same u10 hd9, okn, vc, nl, lc, fun r2 us3 ds H11 b11 hA11 nr2 hr2 dds dl vds eqs => ?_⟩
    have s911 : Same H9 H11 := Bx.SameBut.same u10 ns1 b11
    walk_at "rd"
    refine fun k3 dk3 nk3 nd3 ne3 => ?_
    obtain ⟨u12, hk3⟩ := bare_new (C := C) nk3 nd3 ne3
    generalize upd (upd H11 dk3 (.own k3)) k3 (.ins C dk3 []) = H12 at u12 hk3 ⊢
    refine ⟨k3, dk3, [], rfl, hk3, rfl, ?_⟩
    walk_at "rd"
    refine ⟨r2, us3, rfl, .inl ⟨sq (u12 _ _ hr2), fun tc2 ntc2 => ?_⟩⟩
    have u13 := same_new ntc2 (o := .tup us3)
    have htc2 := upd_same (H := H12) (a := tc2) (o := .tup us3)
    generalize upd H12 tc2 (.tup us3) = H13 at u13 htc2 ⊢
    walk_at "rd"
    refine ⟨sz (by show 2 ≤ 100000; decide), fun T2 nT2 => ?_⟩
    have u14 := same_new nT2 (o := .tup [.ref na, .ref tc2])
    have hT2 := upd_same (H := H13) (a := T2) (o := .tup [.ref na, .ref tc2])
    generalize upd H13 T2 (.tup [.ref na, .ref tc2]) = H14 at u14 hT2 ⊢
    have s1114 := u12.trans (u13.trans u14)
    have s914 := s911.trans s1114
    walk_at "rd"
    refine ⟨k3, T2, na, tc2, ns, us3, ds, rfl, sqt hT2, Bx.Same.tup s914 hna9, Bx.Same.tup u14 (sqt htc2), dpAll_same s1114 dds, nl, okn, asc, vds, by omega, fun R3 pr3 us4 L3 H15 s15 hR3 hpr3 d3 nd3' mem3 l3 => ?_⟩
    rw [sortE nd3' fun c => by rw [mem3, prime_congr eqs]] at d3
    have s915 := s914.trans s15
    walk_at "rd"
    refine ⟨R3, na, pr3, na, e, ns, us4, es, E0, rfl, hR3, Bx.Same.tup s915 hna9, hpr3, d3, Bx.Same.tup s915 hna9, sq (s915 _ _ he9), dpAll_same s915 de9, okn, okE, by omega, ?_⟩
    have hA15 := src_same hA11 (s1114.trans s15)
    -- other names
    walk_at "rd"
    show spTable K _ _ _ _
    unfold spTable
    refine ⟨s1, na, ns, rfl, hA15, Bx.Same.tup s915 hna9, nd, nl, fun d t H16 b16 hA16 nd16 hd16 tok => ?_⟩
    have s916 : Same H9 H16 := Bx.SameBut.same s915 ns1 b16
    have hna16 := Bx.Same.tup s916 hna9
    have hca16 := s916 _ _ hca9
    have hd16' := dpAll_same s916 hd9
    have he16 := s916 _ _ he9
    have de16 := dpAll_same s916 de9
    clear s916 s915 s914 s1114 s911 hna9 hca9 hd9 he9 de9
    walk_at "rd"
    refine ⟨⟨_, hna16⟩, fun D1 hD1 => ?_⟩
    refine lc_it walk_tup (fun i H' => Same H16 H' ∧ ∃ us, H' D1 = some (.lst us) ∧ DpAll K (mn H' [D1]) us (((ns.take i).map fun z => (z, (1 : Int))).map litD)) ⟨same_new hD1, [], upd_same, .nil⟩ (fun i H' _ h => Bx.Same.tup h.1 hna16) ?_ ?_
    · rintro i x Ha Hb hi ⟨sb, us, hM, hda⟩ ⟨rfl, hx⟩
      obtain ⟨z, hz, rfl⟩ := at_map hx
      refine ⟨rfl, ?_⟩
      walk_at "rd"
      refine ⟨sz (by show 2 ≤ 100000; decide), fun T nT => ?_⟩
      have sT := same_new nT (o := .tup [V.str z, .int 1])
      have hT := upd_same (H := Hb) (a := T) (o := .tup [V.str z, .int 1])
      have hM2 := sT _ _ hM
      have TD : T ≠ D1 := fun e => by
        rw [e, hM] at nT
        cases nT
      have ul : us.length ≤ ns.length := by
        rw [da_len hda, List.length_map, List.length_map]
        exact List.length_take_le' i ns
      show ∃ acc, (upd Hb T (.tup [V.str z, .int 1])) D1 = some (.lst acc) ∧ _
      generalize upd Hb T (.tup [V.str z, .int 1]) = Hc at sT hT hM2 ⊢
      refine ⟨us, hM2, szl (by omega), same_at hD1 (sb.trans sT), us ++ [.ref T], upd_same, ?_⟩
      rw [mn_upd (by simp), List.take_add_one, hz, List.map_append, List.map_append]
      exact da_app (dpAll_same (mn_all sT) hda) (da_one (dp_lit (l := (z, 1)) (sqt (mn_at (by simp [TD]) hT))))
    rintro H17 ⟨s17, us5, hM5, hda5⟩
    rw [List.length_map, List.take_length] at hda5
    have hda5' := dpAll_same (mn_same (H := H17) (S := [D1])) hda5
    walk_at "rd"
    refine ⟨D1, us5, rfl, .inl ⟨sq hM5, fun p1 np1 => ?_⟩⟩
    have u18 := same_new np1 (o := .tup us5)
    have hp1 := upd_same (H := H17) (a := p1) (o := .tup us5)
    generalize upd H17 p1 (.tup us5) = H18 at u18 hp1 ⊢
    walk_at "rd"
    refine ⟨sz (by show 1 ≤ 100000; decide), fun l1' nl1' => ?_⟩
    have u19 := same_new nl1' (o := .lst [.ref p1])
    have hl1' := upd_same (H := H18) (a := l1') (o := .lst [.ref p1])
    generalize upd H18 l1' (.lst [.ref p1]) = H19 at u19 hl1' ⊢
    have s1719 := u18.trans u19
    have s1619 := s17.trans s1719
    walk_at "rd"
    show spLRen K _ _ _ _
    unfold spLRen
    refine ⟨d, l1', [.ref p1], [ns.map fun z => (z, (1 : Int))], t, rfl, s1619 _ _ hd16, sq hl1', da_one (.tup (Bx.Same.tup u19 (sqt hp1)) (dpAll_same s1719 hda5')), by show 1 ≤ 1000; decide, fun c hc => by rw [List.mem_singleton.mp hc, List.length_map]; omega, fun rp usp H20 s20 nrp hrp dp20 => ?_⟩
    cases dp20 with
    | @cons v0 _ _ _ dv0 dp20 =>
    cases dp20
    obtain ⟨q0, ys0, rfl, hq0, dq0⟩ := cl_dp dv0
    walk_at "rd"
    refine ⟨_, _, _, _, rfl, rfl, sq hrp, atI_nat (j := 0) rfl, ?_⟩
    refine ⟨q0, rfl, ⟨_, hq0⟩, fun D2 hD2 => ?_⟩
    have yl0 : ys0.length = (rnC t (ns.map fun z => (z, (1 : Int)))).length := by rw [da_len dq0, List.length_map]
    have al0 : (rnC t (ns.map fun z => (z, (1 : Int)))).length = ns.length := by rw [rnC_len, List.length_map]
    refine lc_it walk_tup (fun i H' => Same H20 H' ∧ H' D2 = some (.lst (((rnC t (ns.map fun z => (z, (1 : Int)))).take i).map fun l => V.str l.1))) ⟨same_new hD2, upd_same⟩ (fun i H' _ h => Bx.Same.tup h.1 hq0) ?_ ?_
    · rintro i x Ha Hb hi ⟨sb, hM⟩ ⟨rfl, hx⟩
      obtain ⟨l, hl, dl'⟩ := da_atM dq0 hx
      obtain ⟨lq, rfl, hlq⟩ := lit_dp dl'
      refine ⟨rfl, ?_⟩
      walk_at "rd"
      refine ⟨_, _, _, _, rfl, rfl, Bx.Same.tup sb hlq, atI_nat (j := 0) rfl, ?_⟩
      refine ⟨_, hM, ?_, same_at hD2 sb, ?_⟩
      · rw [List.length_map]
        have := List.length_take_le' i (rnC t (ns.map fun z => (z, (1 : Int))))
        exact szl (by omega)
      · rw [upd_same, List.take_add_one, hl, List.map_append]
        rfl
    rintro H21 ⟨s21, hM21⟩
    rw [yl0, List.take_length] at hM21
    walk_at "rd"
    refine ⟨D2, _, rfl, .inl ⟨sq hM21, fun nn nnn => ?_⟩⟩
    have u22 := same_new nnn (o := .tup ((rnC t (ns.map fun z => (z, (1 : Int)))).map fun l => V.str l.1))
    have hnn := upd_same (H := H21) (a := nn) (o := .tup ((rnC t (ns.map fun z => (z, (1 : Int)))).map fun l => V.str l.1))
    generalize upd H21 nn (.tup ((rnC t (ns.map fun z => (z, (1 : Int)))).map fun l => V.str l.1)) = H22 at u22 hnn ⊢
    have s1622 := s1619.trans (s20.trans (s21.trans u22))
    have nnS : ((rnC t (ns.map fun z => (z, (1 : Int)))).map fun l => V.str l.1) = ((rnC t (ns.map fun z => (z, (1 : Int)))).map (·.1)).map V.str := by
      rw [List.map_map]
      rfl
    rw [nnS] at hnn
    have nnl : ((rnC t (ns.map fun z => (z, (1 : Int)))).map (·.1)).length ≤ 5 := by
      rw [List.length_map, al0]
      exact nl
    have hnr := fun {ys : List Str} (hy : ∀ x, x ∈ ys ↔ x ∈ ns.map (rn t)) (ay : Asc ys) => names_rn tok asc hy ay
    generalize ((rnC t (ns.map fun z => (z, (1 : Int)))).map (·.1)) = nw at hnn nnl hnr
    have hna22 := Bx.Same.tup s1622 hna16
    have hca22 := s1622 _ _ hca16
    have hd22 := dpAll_same s1622 hd16'
    have he22 := s1622 _ _ he16
    have de22 := dpAll_same s1622 de16
    have ht22 := s1622 _ _ hd16
    have hA22 := src_same hA16 s1622
    clear s1622 s21 s20 s1619 s1719 u18 u19 s17 hna16 hca16 hd16' he16 de16 hd16 hA16
    walk_at "rd"
    refine fun k4 dk4 nk4 nd4 ne4 => ?_
    obtain ⟨u23, hk4⟩ := bare_new (C := C) nk4 nd4 ne4
    generalize upd (upd H22 dk4 (.own k4)) k4 (.ins C dk4 []) = H23 at u23 hk4 ⊢
    refine ⟨k4, dk4, [], rfl, hk4, rfl, ?_⟩
    walk_at "rd"
    refine ⟨ca, xs, rfl, .inl ⟨sq (u23 _ _ hca22), fun tc4 ntc4 => ?_⟩⟩
    have u24 := same_new ntc4 (o := .tup xs)
    have htc4 := upd_same (H := H23) (a := tc4) (o := .tup xs)
    generalize upd H23 tc4 (.tup xs) = H24 at u24 htc4 ⊢
    walk_at "rd"
    refine ⟨sz (by show 2 ≤ 100000; decide), fun T4 nT4 => ?_⟩
    have u25 := same_new nT4 (o := .tup [.ref na, .ref tc4])
    have hT4 := upd_same (H := H24) (a := T4) (o := .tup [.ref na, .ref tc4])
    generalize upd H24 T4 (.tup [.ref na, .ref tc4]) = H25 at u25 hT4 ⊢
    have s2225 := u23.trans (u24.trans u25)
    walk_at "rd"
    show spRen K _ _ _ _
    unfold spRen
    have c5 : ∀ c ∈ cs, c.length ≤ 1000 := fun c hc => by
      have := vc_len (vc c hc)
      omega
    refine ⟨k4, T4, na, tc4, d, ns, xs, cs, t, rfl, sqt hT4, Bx.Same.tup s2225 hna22, Bx.Same.tup u25 (sqt htc4), dpAll_same s2225 hd22, nl, c5, by omega, s2225 _ _ ht22, fun R4 ap ar ys us6 H26 s26' hR4 hap st ndy hy har d6 => ?_⟩
    have ay := asc_of st ndy
    have enw := hnr hy ay
    subst enw
    have s2226 := s2225.trans s26'
    have vcR : ∀ c ∈ cs.map (rnC t), Vc nw c := fun c hc => by
      obtain ⟨c0, h0, rfl⟩ := List.mem_map.mp hc
      exact rnC_vc tok hy (vc c0 h0)
    have okw : ∀ z ∈ nw, PyData.strOk z = true := fun z hz => by
      obtain ⟨z0, h0, rfl⟩ := List.mem_map.mp ((hy z).mp hz)
      exact rn_okS tok okn h0
    have okcR : ∀ c ∈ cs.map (rnC t), OkC c := fun c hc => ok_vc okw (vcR c hc)
    walk_at "rd"
    refine ⟨d, ca, xs, cs, t, rfl, s2226 _ _ ht22, sq (s2226 _ _ hca22), dpAll_same s2226 hd22, by omega, c5, fun r7 us7 H27 s27' nr7 hr7 d7 => ?_⟩
    have s2227 := s2226.trans s27'
    have hnn27 := Bx.Same.tup s2227 (sqt (K := K) hnn)
    walk_at "rd"
    refine ⟨R4, ap, ar, nn, r7, nw, us6, us7, cs.map (rnC t), rfl, Bx.Same.tup s27' hR4, Bx.Same.tup s27' hap, Bx.Same.tup s27' har, dpAll_same s27' d6, hnn27, sq hr7, d7, okw, okcR, by rw [List.length_map]; omega, ?_⟩
    walk_at "rd"
    refine fun k5 dk5 nk5 nd5 ne5 => ?_
    obtain ⟨u28, hk5⟩ := bare_new (C := C) nk5 nd5 ne5
    generalize upd (upd H27 dk5 (.own k5)) k5 (.ins C dk5 []) = H28 at u28 hk5 ⊢
    refine ⟨k5, dk5, [], rfl, hk5, rfl, ?_⟩
    have s2628 := s27'.trans u28
    walk_at "rd"
    refine ⟨k5, R4, ap, ar, nw, us6, cs.map (rnC t), rfl, Bx.Same.tup s2628 hR4, Bx.Same.tup s2628 hap, Bx.Same.tup s2628 har, dpAll_same s2628 d6, nnl, okw, ay, vcR, by rw [List.length_map]; omega, fun R5 pr5 us8 L5 H29 s29' hR5 hpr5 d8 nd5' mem5 l5 => ?_⟩
    have s2229 := s2227.trans (u28.trans s29')
    have c5E : ∀ c ∈ E0, c.length ≤ 1000 := fun c hc => by
      have := vc_len (vE c hc)
      omega
    walk_at "rd"
    refine ⟨d, e, es, E0, t, rfl, s2229 _ _ ht22, sq (s2229 _ _ he22), dpAll_same s2229 de22, by omega, c5E, fun r9 us9 H30 s30 nr9 hr9 d9 => ?_⟩
    walk_at "rd"
    dsimp only [tNil]
    refine sort_cls (sq hr9) d9 (by rw [List.length_map]; omega) fun zs p9 np9 dz => ?_
    have u31 := same_new np9 (o := .lst zs)
    have hp9 := upd_same (H := H30) (a := p9) (o := .lst zs)
    generalize upd H30 p9 (.lst zs) = H31 at u31 hp9 ⊢
    have s2931 := s30.trans u31
    have s2231 := s2229.trans s2931
    have e5 : L5.mergeSort cle = (E0.map (rnC t)).mergeSort cle := same_sorts nd5' (rn_nodup tok ndE vE) fun c => by rw [mem5, prime_rn tok hy vc memE]
    rw [e5] at d8
    walk_at "rd"
    refine ⟨R5, ap, pr5, nn, p9, nw, us8, zs, (E0.map (rnC t)).mergeSort cle, rfl, Bx.Same.tup s2931 hR5, Bx.Same.tup (s2628.trans (s29'.trans s2931)) hap, Bx.Same.tup s2931 hpr5, dpAll_same s2931 d8, Bx.Same.tup s2231 (sqt hnn), sq hp9, dpAll_same u31 dz, okw, fun c hc => ?_, by rw [List.length_mergeSort, List.length_map]; omega, ?_⟩
    · obtain ⟨c0, h0, rfl⟩ := List.mem_map.mp ((List.mergeSort_perm _ cle).mem_iff.mp hc)
      exact ok_vc okw (rnC_vc tok hy (vE c0 h0))
    have hna31 := Bx.Same.tup s2231 hna22
    have hA31 := src_same hA22 s2231
    clear s2231 s2931 s2229 s2628 s2227 s2226 s2225 hna22 hca22 hd22 he22 de22 ht22 hA22
    -- values
    walk_at "rd"
    refine fun m nm => ?_
    have ms1 := src_ne hA31 nm
    have um := same_new nm (o := .dK [])
    have hm0 : (upd H31 m (.dK [])) m = some (.dK (asV [])) := upd_same
    have hA32 := src_same hA31 um
    walk_at "rd"
    generalize upd H31 m (.dK []) = H32 at um hm0 hA32 ⊢
    refine ⟨⟨_, Bx.Same.tup um hna31⟩, for_it walk_tup (fun i σ H' => ∃ (o12 : Option V), σ = [some (.ref sa), some (.ref s1), some (.ref na), some (.ref ca), some (.ref e), some (.ref R1), some (.ref r2), some (.ref d), some (.ref rp), some (.ref nn), some (.ref R4), some (.ref m), o12, none, none] ∧ SameBut s1 H31 H' ∧ Src H' s1 ∧ ∃ l : As, H' m = some (.dK (asV l)) ∧ l.map (·.1) = ns.take i ∧ ∀ p ∈ l, p.2 = 0 ∨ p.2 = 1)
      ⟨none, rfl, Bx.Same.but um, hA32, [], hm0, rfl, fun p hp => (nomatch hp)⟩ (fun _ _ _ _ ⟨_, _, s, _⟩ => sqt_but hA31 s hna31) ?_ ?_⟩
    · rintro i x σ Ha Hb hi ⟨o12, rfl, sb, hAb, l, hm, lk, lb⟩ ⟨rfl, hx⟩
      obtain ⟨z, hz, rfl⟩ := at_map hx
      have ll : l.length ≤ 5 := by
        have z1 := congrArg List.length lk
        rw [List.length_map] at z1
        have := List.length_take_le' i ns
        omega
      walk_at "rd"
      refine draw_of (lim := 2) hAb (by decide) fun r Hc h0 h1 sc' hAc => ?_
      have hmc := sc' _ _ ms1.symm hm
      have nz : z ∉ l.map (·.1) := by
        rw [lk]
        exact nd_take nd hz
      walk_at "rd"
      refine ⟨m, _, rfl, DPut.k (k := .inr z) (v := .int r) hmc (szl (by unfold asV; rw [List.length_map]; omega)), ?_⟩
      rw [put_as nz]
      refine ⟨_, rfl, but_at nm (sb.trans sc'), src_upd hAc ms1, l ++ [(z, r)], upd_same, ?_, fun p hp => ?_⟩
      · rw [List.map_append, lk, List.take_add_one, hz]
        rfl
      · rcases List.mem_append.mp hp with h | h
        · exact lb p h
        · rw [List.mem_singleton.mp h]
          show r = 0 ∨ r = 1
          omega
    rintro σ H33 ⟨o12, rfl, sb33, hA33, l, hm33, lk, lb⟩
    rw [List.length_map, List.take_length] at lk
    have hna33 := sqt_but hA31 sb33 hna31
    have b1 : B01 (vl l) := vl_bit lb
    have val : ∀ z ∈ ns, valV (asV l) (.inr z) = some (.int (vl l z)) := fun z hz => has_as (by rw [lk]; exact hz)
    generalize vl l = g at b1 val
    walk_at "rd"
    refine ⟨⟨_, hna33⟩, fun D4 hD4 => ?_⟩
    refine lc_it walk_tup (fun i H' => Same H33 H' ∧ ∃ us, H' D4 = some (.lst us) ∧ DpAll K (mn H' [D4]) us ((units (ns.take i) g).map clD)) ⟨same_new hD4, [], upd_same, .nil⟩ (fun i H' _ h => Bx.Same.tup h.1 hna33) ?_ ?_
    · rintro i x Ha Hb hi ⟨s2, us, hM, hda⟩ ⟨rfl, hx⟩
      obtain ⟨z, hz, rfl⟩ := at_map hx
      refine ⟨rfl, ?_⟩
      walk_at "rd"
      refine ⟨m, .int (g z), rfl, by rw [← val z (List.mem_of_getElem? hz)]; exact DGet.k (k := .inr z) (s2 _ _ hm33), ?_⟩
      walk_at "rd"
      refine ⟨sz (by show 2 ≤ 100000; decide), fun T nT => ?_⟩
      have s3 := same_new nT (o := .tup [V.str z, .int (g z)])
      have hT := upd_same (H := Hb) (a := T) (o := .tup [V.str z, .int (g z)])
      generalize upd Hb T (.tup [V.str z, .int (g z)]) = Hc at s3 hT ⊢
      walk_at "rd"
      refine ⟨sz (by show 1 ≤ 100000; decide), fun N nN => ?_⟩
      have s4 := same_new nN (o := .tup [V.ref T])
      have hN := upd_same (H := Hc) (a := N) (o := .tup [V.ref T])
      have hM4 := (s3.trans s4) _ _ hM
      have TD : T ≠ D4 := fun e => by
        rw [e, hM] at nT
        cases nT
      have ND : N ≠ D4 := fun e => by
        rw [e, s3 _ _ hM] at nN
        cases nN
      generalize upd Hc N (.tup [V.ref T]) = Hd at s4 hN hM4 ⊢
      have ul : us.length ≤ ns.length := by
        rw [da_len hda, List.length_map]
        unfold units
        rw [List.length_map]
        exact List.length_take_le' i ns
      refine ⟨us, hM4, szl (by omega), same_at hD4 (s2.trans (s3.trans s4)), us ++ [.ref N], upd_same, ?_⟩
      have eu : units (ns.take (i + 1)) g = units (ns.take i) g ++ [[(z, g z)]] := by
        unfold units
        rw [List.take_add_one, hz, List.map_append]
        rfl
      rw [mn_upd (by simp), eu, List.map_append]
      exact da_app (dpAll_same (mn_all (s3.trans s4)) hda) (da_one (.tup (sqt (mn_at (by simp [ND]) hN)) (da_one (dp_lit (l := (z, g z)) (sqt (mn_at (by simp [TD]) (s4 _ _ hT)))))))
    rintro H34 ⟨s34, us10, hM10, hda10⟩
    rw [List.length_map, List.take_length] at hda10
    have dP := dpAll_same (mn_same (H := H34) (S := [D4])) hda10
    have vU := units_vc (ns := ns) b1
    have okU : ∀ c ∈ units ns g, OkC c := fun c hc => ok_vc okn (vU c hc)
    have lU : (units ns g).length ≤ 5 := by
      unfold units
      rw [List.length_map]
      exact nl
    walk_at "rd"
    refine fun k6 dk6 nk6 nd6 ne6 => ?_
    obtain ⟨u35, hk6⟩ := bare_new (C := C) nk6 nd6 ne6
    generalize upd (upd H34 dk6 (.own k6)) k6 (.ins C dk6 []) = H35 at u35 hk6 ⊢
    refine ⟨k6, dk6, [], rfl, hk6, rfl, ?_⟩
    have s3335 := s34.trans u35
    walk_at "rd"
    show spPin K _ _ _ _
    unfold spPin
    refine ⟨k6, na, m, ns, asV l, g, rfl, Bx.Same.tup s3335 hna33, s3335 _ _ hm33, val, by omega, fun R6 pr6 us11 H36 s36 hR6 hpr6 d11 => ?_⟩
    change DpAll K H36 us11 ((units ns g).map clD) at d11
    have s3436 := u35.trans s36
    have hna36 := Bx.Same.tup (s3335.trans s36) hna33
    walk_at "rd"
    refine ⟨R6, na, pr6, na, D4, ns, us11, us10, units ns g, rfl, hR6, hna36, hpr6, d11, hna36, sq (s3436 _ _ hM10), dpAll_same s3436 dP, okn, okU, by omega, ?_⟩
    walk_at "rd"
    refine fun k7 dk7 nk7 nd7 ne7 => ?_
    obtain ⟨u37, hk7⟩ := bare_new (C := C) nk7 nd7 ne7
    generalize upd (upd H36 dk7 (.own k7)) k7 (.ins C dk7 []) = H37 at u37 hk7 ⊢
    refine ⟨k7, dk7, [], rfl, hk7, rfl, ?_⟩
    walk_at "rd"
    refine ⟨k7, R6, na, pr6, ns, us11, units ns g, rfl, Bx.Same.tup u37 hR6, Bx.Same.tup u37 hna36, Bx.Same.tup u37 hpr6, dpAll_same u37 d11, nl, okn, asc, vU, by omega, fun R7 pr7 us12 L7 H38 s38 hR7 hpr7 d12 nd7' mem7 l7 => ?_⟩
    rw [units_sorted asc nd7' fun c => by rw [mem7, units_prime b1]] at d12
    have s3638 := u37.trans s38
    have s3438 := s3436.trans s3638
    walk_at "rd"
    refine ⟨R7, na, pr7, na, D4, ns, us12, us10, units ns g, rfl, hR7, Bx.Same.tup s3638 hna36, hpr7, d12, Bx.Same.tup s3638 hna36, sq (s3438 _ _ hM10), dpAll_same s3438 dP, okn, okU, by omega, ?_⟩
    walk_at "rd"
    refine fun k8 dk8 nk8 nd8 ne8 => ?_
    obtain ⟨u39, hk8⟩ := bare_new (C := C) nk8 nd8 ne8
    generalize upd (upd H38 dk8 (.own k8)) k8 (.ins C dk8 []) = H39 at u39 hk8 ⊢
    refine ⟨k8, dk8, [], rfl, hk8, rfl, ?_⟩
    walk_at "rd"
    show spContr K _ _ _ _
    unfold spContr
    refine ⟨k8, rfl, fun r8 nr8 => ?_⟩
    have u40 := same_new nr8 (o := .tup ([] : List V))
    have hr8 := upd_same (H := H39) (a := r8) (o := .tup ([] : List V))
    generalize upd H39 r8 (.tup []) = H40 at u40 hr8 ⊢
    walk_at "rd"
    refine ⟨sz (by decide), fun T8 nT8 => ?_⟩
    have u41 := same_new nT8 (o := .tup ([] : List V))
    have hT8 := upd_same (H := H40) (a := T8) (o := .tup ([] : List V))
    refine ⟨.tuple [], .tuple [], .tup (Bx.Same.tup u41 (sqt hr8)) .nil, .tup (sqt hT8) .nil, by decide, by decide, ?_⟩
    exact q _
end
end K10
namespace K10
open PySem PySem.Spec PyProof.Rows L2 Bx TL Dx Zx Ow Sup NdefX Px
set_option maxHeartbeats 4000000 in
theorem all_mk {l : PySem.W.OpenLaw} {w : World} {K : PySem.W.Frag} {h : Heap} {mg : Str → Option Value} {fa : Addr} (X : K.In h) (G : h.Ns mainGlobals mg) (hfa : mg "law" = some (.ref fa))
    {C : Addr}
    {f_Mnormal : Addr} {oc_Mnormal kV_Mnormal dc_Mnormal pm_Mnormal cd_Mnormal ct_Mnormal : Value} {od_Mnormal an_Mnormal : Option Addr} {sl_Mnormal : Array (Option Value)}
    {f_Mrename : Addr} {oc_Mrename kV_Mrename dc_Mrename pm_Mrename cd_Mrename ct_Mrename : Value} {od_Mrename an_Mrename : Option Addr} {sl_Mrename : Array (Option Value)}
    {f_Mpin : Addr} {oc_Mpin kV_Mpin dc_Mpin pm_Mpin cd_Mpin ct_Mpin : Value} {od_Mpin an_Mpin : Option Addr} {sl_Mpin : Array (Option Value)}
    {f_Mcontradiction : Addr} {oc_Mcontradiction kV_Mcontradiction dc_Mcontradiction pm_Mcontradiction cd_Mcontradiction ct_Mcontradiction : Value} {od_Mcontradiction an_Mcontradiction : Option Addr} {sl_Mcontradiction : Array (Option Value)}
    {f_merge_names : Addr} {oc_merge_names kV_merge_names dc_merge_names pm_merge_names cd_merge_names ct_merge_names : Value} {od_merge_names an_merge_names : Option Addr} {sl_merge_names : Array (Option Value)}
    {f_replace_names : Addr} {oc_replace_names kV_replace_names dc_replace_names pm_replace_names cd_replace_names ct_replace_names : Value} {od_replace_names an_replace_names : Option Addr} {sl_replace_names : Array (Option Value)}
    {f_everything : Addr} {oc_everything kV_everything dc_everything pm_everything cd_everything ct_everything : Value} {od_everything an_everything : Option Addr} {sl_everything : Array (Option Value)}
    {f__half : Addr} {oc__half kV__half dc__half pm__half cd__half ct__half : Value} {od__half an__half : Option Addr} {sl__half : Array (Option Value)}
    {f_when_decided : Addr} {oc_when_decided kV_when_decided dc_when_decided pm_when_decided cd_when_decided ct_when_decided : Value} {od_when_decided an_when_decided : Option Addr} {sl_when_decided : Array (Option Value)}
    {f_failing : Addr} {oc_failing kV_failing dc_failing pm_failing cd_failing ct_failing : Value} {od_failing an_failing : Option Addr} {sl_failing : Array (Option Value)}
    {f_prime_clauses : Addr} {oc_prime_clauses kV_prime_clauses dc_prime_clauses pm_prime_clauses cd_prime_clauses ct_prime_clauses : Value} {od_prime_clauses an_prime_clauses : Option Addr} {sl_prime_clauses : Array (Option Value)}
    {f__law_source : Addr} {oc__law_source kV__law_source dc__law_source pm__law_source cd__law_source ct__law_source : Value} {od__law_source an__law_source : Option Addr} {sl__law_source : Array (Option Value)}
    {f__law_draw : Addr} {oc__law_draw kV__law_draw dc__law_draw pm__law_draw cd__law_draw ct__law_draw : Value} {od__law_draw an__law_draw : Option Addr} {sl__law_draw : Array (Option Value)}
    {f__law_names : Addr} {oc__law_names kV__law_names dc__law_names pm__law_names cd__law_names ct__law_names : Value} {od__law_names an__law_names : Option Addr} {sl__law_names : Array (Option Value)}
    {f__law_clauses : Addr} {oc__law_clauses kV__law_clauses dc__law_clauses pm__law_clauses cd__law_clauses ct__law_clauses : Value} {od__law_clauses an__law_clauses : Option Addr} {sl__law_clauses : Array (Option Value)}
    {f__law_same_solutions : Addr} {oc__law_same_solutions kV__law_same_solutions dc__law_same_solutions pm__law_same_solutions cd__law_same_solutions ct__law_same_solutions : Value} {od__law_same_solutions an__law_same_solutions : Option Addr} {sl__law_same_solutions : Array (Option Value)}
    {f__law_rows : Addr} {oc__law_rows kV__law_rows dc__law_rows pm__law_rows cd__law_rows ct__law_rows : Value} {od__law_rows an__law_rows : Option Addr} {sl__law_rows : Array (Option Value)}
    {f__law_all_clauses : Addr} {oc__law_all_clauses kV__law_all_clauses dc__law_all_clauses pm__law_all_clauses cd__law_all_clauses ct__law_all_clauses : Value} {od__law_all_clauses an__law_all_clauses : Option Addr} {sl__law_all_clauses : Array (Option Value)}
    {f__law_holds : Addr} {oc__law_holds kV__law_holds dc__law_holds pm__law_holds cd__law_holds ct__law_holds : Value} {od__law_holds an__law_holds : Option Addr} {sl__law_holds : Array (Option Value)}
    {f__law_all_hold : Addr} {oc__law_all_hold kV__law_all_hold dc__law_all_hold pm__law_all_hold cd__law_all_hold ct__law_all_hold : Value} {od__law_all_hold an__law_all_hold : Option Addr} {sl__law_all_hold : Array (Option Value)}
    {f__law_follows : Addr} {oc__law_follows kV__law_follows dc__law_follows pm__law_follows cd__law_follows ct__law_follows : Value} {od__law_follows an__law_follows : Option Addr} {sl__law_follows : Array (Option Value)}
    {f__law_normal : Addr} {oc__law_normal kV__law_normal dc__law_normal pm__law_normal cd__law_normal ct__law_normal : Value} {od__law_normal an__law_normal : Option Addr} {sl__law_normal : Array (Option Value)}
    {f__law_is : Addr} {oc__law_is kV__law_is dc__law_is pm__law_is cd__law_is ct__law_is : Value} {od__law_is an__law_is : Option Addr} {sl__law_is : Array (Option Value)}
    {f__law_table : Addr} {oc__law_table kV__law_table dc__law_table pm__law_table cd__law_table ct__law_table : Value} {od__law_table an__law_table : Option Addr} {sl__law_table : Array (Option Value)}
    {f__law_new : Addr} {oc__law_new kV__law_new dc__law_new pm__law_new cd__law_new ct__law_new : Value} {od__law_new an__law_new : Option Addr} {sl__law_new : Array (Option Value)}
    {f__law_renamed : Addr} {oc__law_renamed kV__law_renamed dc__law_renamed pm__law_renamed cd__law_renamed ct__law_renamed : Value} {od__law_renamed an__law_renamed : Option Addr} {sl__law_renamed : Array (Option Value)}
    {f_law : Addr} {oc_law kV_law dc_law pm_law cd_law ct_law : Value} {od_law an_law : Option Addr} {sl_law : Array (Option Value)}
    (aC : PySem.W.nsIn K mainGlobals "Bits" = some (some (.ref C)))
    (pg : PySem.W.plainGet K C Str.empty = true)
    (hd : PySem.W.hasDictIn K C = true)
    (po : PySem.W.plainOver K C = true)
    (sa : PySem.W.findIn K (.ref C) "__setattr__" = some (some (.builtin "object.__setattr__")))
    (mk : PySem.W.makesIn K C = true)
    (kc : PySem.W.keepIn K (.ref C) = true)
    (ini : PySem.W.findIn K (.ref C) "__init__" = some (some (.builtin "object.__init__")))
    (a_Mnormal : PySem.W.findIn K (.ref C) "normal" = some (some (.ref f_Mnormal))) (l_Mnormal : K.lookup f_Mnormal = some ⟨oc_Mnormal, od_Mnormal, .func (PySem.W.fnOf "normal" "Bits.normal" (defArgs s_Bits_normal) (defBody s_Bits_normal) (defScope s_Bits_normal) .none kV_Mnormal dc_Mnormal pm_Mnormal an_Mnormal cd_Mnormal ct_Mnormal), sl_Mnormal⟩) (c_Mnormal : PySem.W.codeIn K cd_Mnormal "Bits.normal" = true) (k_Mnormal : PySem.W.keepIn K (.ref f_Mnormal) = true)
    (i_Mnormal : PySem.W.isFn K (.ref f_Mnormal) = true)
    (a_Mrename : PySem.W.findIn K (.ref C) "rename" = some (some (.ref f_Mrename))) (l_Mrename : K.lookup f_Mrename = some ⟨oc_Mrename, od_Mrename, .func (PySem.W.fnOf "rename" "Bits.rename" (defArgs s_Bits_rename) (defBody s_Bits_rename) (defScope s_Bits_rename) .none kV_Mrename dc_Mrename pm_Mrename an_Mrename cd_Mrename ct_Mrename), sl_Mrename⟩) (c_Mrename : PySem.W.codeIn K cd_Mrename "Bits.rename" = true) (k_Mrename : PySem.W.keepIn K (.ref f_Mrename) = true)
    (i_Mrename : PySem.W.isFn K (.ref f_Mrename) = true)
    (a_Mpin : PySem.W.findIn K (.ref C) "pin" = some (some (.ref f_Mpin))) (l_Mpin : K.lookup f_Mpin = some ⟨oc_Mpin, od_Mpin, .func (PySem.W.fnOf "pin" "Bits.pin" (defArgs s_Bits_pin) (defBody s_Bits_pin) (defScope s_Bits_pin) .none kV_Mpin dc_Mpin pm_Mpin an_Mpin cd_Mpin ct_Mpin), sl_Mpin⟩) (c_Mpin : PySem.W.codeIn K cd_Mpin "Bits.pin" = true) (k_Mpin : PySem.W.keepIn K (.ref f_Mpin) = true)
    (i_Mpin : PySem.W.isFn K (.ref f_Mpin) = true)
    (a_Mcontradiction : PySem.W.findIn K (.ref C) "contradiction" = some (some (.ref f_Mcontradiction))) (l_Mcontradiction : K.lookup f_Mcontradiction = some ⟨oc_Mcontradiction, od_Mcontradiction, .func (PySem.W.fnOf "contradiction" "Bits.contradiction" (defArgs s_Bits_contradiction) (defBody s_Bits_contradiction) (defScope s_Bits_contradiction) .none kV_Mcontradiction dc_Mcontradiction pm_Mcontradiction an_Mcontradiction cd_Mcontradiction ct_Mcontradiction), sl_Mcontradiction⟩) (c_Mcontradiction : PySem.W.codeIn K cd_Mcontradiction "Bits.contradiction" = true) (k_Mcontradiction : PySem.W.keepIn K (.ref f_Mcontradiction) = true)
    (i_Mcontradiction : PySem.W.isFn K (.ref f_Mcontradiction) = true)
    (a_merge_names : PySem.W.nsIn K mainGlobals "merge_names" = some (some (.ref f_merge_names))) (l_merge_names : K.lookup f_merge_names = some ⟨oc_merge_names, od_merge_names, .func (PySem.W.fnOf "merge_names" "merge_names" (defArgs s_merge_names) (defBody s_merge_names) (defScope s_merge_names) .none kV_merge_names dc_merge_names pm_merge_names an_merge_names cd_merge_names ct_merge_names), sl_merge_names⟩) (c_merge_names : PySem.W.codeIn K cd_merge_names "merge_names" = true) (k_merge_names : PySem.W.keepIn K (.ref f_merge_names) = true)
    (a_replace_names : PySem.W.nsIn K mainGlobals "replace_names" = some (some (.ref f_replace_names))) (l_replace_names : K.lookup f_replace_names = some ⟨oc_replace_names, od_replace_names, .func (PySem.W.fnOf "replace_names" "replace_names" (defArgs s_replace_names) (defBody s_replace_names) (defScope s_replace_names) .none kV_replace_names dc_replace_names pm_replace_names an_replace_names cd_replace_names ct_replace_names), sl_replace_names⟩) (c_replace_names : PySem.W.codeIn K cd_replace_names "replace_names" = true) (k_replace_names : PySem.W.keepIn K (.ref f_replace_names) = true)
    (a_everything : PySem.W.nsIn K mainGlobals "everything" = some (some (.ref f_everything))) (l_everything : K.lookup f_everything = some ⟨oc_everything, od_everything, .func (PySem.W.fnOf "everything" "everything" (defArgs s_everything) (defBody s_everything) (defScope s_everything) .none kV_everything dc_everything pm_everything an_everything cd_everything ct_everything), sl_everything⟩) (c_everything : PySem.W.codeIn K cd_everything "everything" = true) (k_everything : PySem.W.keepIn K (.ref f_everything) = true)
    (a__half : PySem.W.nsIn K mainGlobals "_half" = some (some (.ref f__half))) (l__half : K.lookup f__half = some ⟨oc__half, od__half, .func (PySem.W.fnOf "_half" "_half" (defArgs s__half) (defBody s__half) (defScope s__half) .none kV__half dc__half pm__half an__half cd__half ct__half), sl__half⟩) (c__half : PySem.W.codeIn K cd__half "_half" = true) (k__half : PySem.W.keepIn K (.ref f__half) = true)
    (a_when_decided : PySem.W.nsIn K mainGlobals "when_decided" = some (some (.ref f_when_decided))) (l_when_decided : K.lookup f_when_decided = some ⟨oc_when_decided, od_when_decided, .func (PySem.W.fnOf "when_decided" "when_decided" (defArgs s_when_decided) (defBody s_when_decided) (defScope s_when_decided) .none kV_when_decided dc_when_decided pm_when_decided an_when_decided cd_when_decided ct_when_decided), sl_when_decided⟩) (c_when_decided : PySem.W.codeIn K cd_when_decided "when_decided" = true) (k_when_decided : PySem.W.keepIn K (.ref f_when_decided) = true)
    (a_failing : PySem.W.nsIn K mainGlobals "failing" = some (some (.ref f_failing))) (l_failing : K.lookup f_failing = some ⟨oc_failing, od_failing, .func (PySem.W.fnOf "failing" "failing" (defArgs s_failing) (defBody s_failing) (defScope s_failing) .none kV_failing dc_failing pm_failing an_failing cd_failing ct_failing), sl_failing⟩) (c_failing : PySem.W.codeIn K cd_failing "failing" = true) (k_failing : PySem.W.keepIn K (.ref f_failing) = true)
    (a_prime_clauses : PySem.W.nsIn K mainGlobals "prime_clauses" = some (some (.ref f_prime_clauses))) (l_prime_clauses : K.lookup f_prime_clauses = some ⟨oc_prime_clauses, od_prime_clauses, .func (PySem.W.fnOf "prime_clauses" "prime_clauses" (defArgs s_prime_clauses) (defBody s_prime_clauses) (defScope s_prime_clauses) .none kV_prime_clauses dc_prime_clauses pm_prime_clauses an_prime_clauses cd_prime_clauses ct_prime_clauses), sl_prime_clauses⟩) (c_prime_clauses : PySem.W.codeIn K cd_prime_clauses "prime_clauses" = true) (k_prime_clauses : PySem.W.keepIn K (.ref f_prime_clauses) = true)
    (a__law_source : PySem.W.nsIn K mainGlobals "_law_source" = some (some (.ref f__law_source))) (l__law_source : K.lookup f__law_source = some ⟨oc__law_source, od__law_source, .func (PySem.W.fnOf "_law_source" "_law_source" (defArgs s__law_source) (defBody s__law_source) (defScope s__law_source) .none kV__law_source dc__law_source pm__law_source an__law_source cd__law_source ct__law_source), sl__law_source⟩) (c__law_source : PySem.W.codeIn K cd__law_source "_law_source" = true) (k__law_source : PySem.W.keepIn K (.ref f__law_source) = true)
    (a__law_draw : PySem.W.nsIn K mainGlobals "_law_draw" = some (some (.ref f__law_draw))) (l__law_draw : K.lookup f__law_draw = some ⟨oc__law_draw, od__law_draw, .func (PySem.W.fnOf "_law_draw" "_law_draw" (defArgs s__law_draw) (defBody s__law_draw) (defScope s__law_draw) .none kV__law_draw dc__law_draw pm__law_draw an__law_draw cd__law_draw ct__law_draw), sl__law_draw⟩) (c__law_draw : PySem.W.codeIn K cd__law_draw "_law_draw" = true) (k__law_draw : PySem.W.keepIn K (.ref f__law_draw) = true)
    (a__law_names : PySem.W.nsIn K mainGlobals "_law_names" = some (some (.ref f__law_names))) (l__law_names : K.lookup f__law_names = some ⟨oc__law_names, od__law_names, .func (PySem.W.fnOf "_law_names" "_law_names" (defArgs s__law_names) (defBody s__law_names) (defScope s__law_names) .none kV__law_names dc__law_names pm__law_names an__law_names cd__law_names ct__law_names), sl__law_names⟩) (c__law_names : PySem.W.codeIn K cd__law_names "_law_names" = true) (k__law_names : PySem.W.keepIn K (.ref f__law_names) = true)
    (a__law_clauses : PySem.W.nsIn K mainGlobals "_law_clauses" = some (some (.ref f__law_clauses))) (l__law_clauses : K.lookup f__law_clauses = some ⟨oc__law_clauses, od__law_clauses, .func (PySem.W.fnOf "_law_clauses" "_law_clauses" (defArgs s__law_clauses) (defBody s__law_clauses) (defScope s__law_clauses) .none kV__law_clauses dc__law_clauses pm__law_clauses an__law_clauses cd__law_clauses ct__law_clauses), sl__law_clauses⟩) (c__law_clauses : PySem.W.codeIn K cd__law_clauses "_law_clauses" = true) (k__law_clauses : PySem.W.keepIn K (.ref f__law_clauses) = true)
    (a__law_same_solutions : PySem.W.nsIn K mainGlobals "_law_same_solutions" = some (some (.ref f__law_same_solutions))) (l__law_same_solutions : K.lookup f__law_same_solutions = some ⟨oc__law_same_solutions, od__law_same_solutions, .func (PySem.W.fnOf "_law_same_solutions" "_law_same_solutions" (defArgs s__law_same_solutions) (defBody s__law_same_solutions) (defScope s__law_same_solutions) .none kV__law_same_solutions dc__law_same_solutions pm__law_same_solutions an__law_same_solutions cd__law_same_solutions ct__law_same_solutions), sl__law_same_solutions⟩) (c__law_same_solutions : PySem.W.codeIn K cd__law_same_solutions "_law_same_solutions" = true) (k__law_same_solutions : PySem.W.keepIn K (.ref f__law_same_solutions) = true)
    (a__law_rows : PySem.W.nsIn K mainGlobals "_law_rows" = some (some (.ref f__law_rows))) (l__law_rows : K.lookup f__law_rows = some ⟨oc__law_rows, od__law_rows, .func (PySem.W.fnOf "_law_rows" "_law_rows" (defArgs s__law_rows) (defBody s__law_rows) (defScope s__law_rows) .none kV__law_rows dc__law_rows pm__law_rows an__law_rows cd__law_rows ct__law_rows), sl__law_rows⟩) (c__law_rows : PySem.W.codeIn K cd__law_rows "_law_rows" = true) (k__law_rows : PySem.W.keepIn K (.ref f__law_rows) = true)
    (a__law_all_clauses : PySem.W.nsIn K mainGlobals "_law_all_clauses" = some (some (.ref f__law_all_clauses))) (l__law_all_clauses : K.lookup f__law_all_clauses = some ⟨oc__law_all_clauses, od__law_all_clauses, .func (PySem.W.fnOf "_law_all_clauses" "_law_all_clauses" (defArgs s__law_all_clauses) (defBody s__law_all_clauses) (defScope s__law_all_clauses) .none kV__law_all_clauses dc__law_all_clauses pm__law_all_clauses an__law_all_clauses cd__law_all_clauses ct__law_all_clauses), sl__law_all_clauses⟩) (c__law_all_clauses : PySem.W.codeIn K cd__law_all_clauses "_law_all_clauses" = true) (k__law_all_clauses : PySem.W.keepIn K (.ref f__law_all_clauses) = true)
    (a__law_holds : PySem.W.nsIn K mainGlobals "_law_holds" = some (some (.ref f__law_holds))) (l__law_holds : K.lookup f__law_holds = some ⟨oc__law_holds, od__law_holds, .func (PySem.W.fnOf "_law_holds" "_law_holds" (defArgs s__law_holds) (defBody s__law_holds) (defScope s__law_holds) .none kV__law_holds dc__law_holds pm__law_holds an__law_holds cd__law_holds ct__law_holds), sl__law_holds⟩) (c__law_holds : PySem.W.codeIn K cd__law_holds "_law_holds" = true) (k__law_holds : PySem.W.keepIn K (.ref f__law_holds) = true)
    (a__law_all_hold : PySem.W.nsIn K mainGlobals "_law_all_hold" = some (some (.ref f__law_all_hold))) (l__law_all_hold : K.lookup f__law_all_hold = some ⟨oc__law_all_hold, od__law_all_hold, .func (PySem.W.fnOf "_law_all_hold" "_law_all_hold" (defArgs s__law_all_hold) (defBody s__law_all_hold) (defScope s__law_all_hold) .none kV__law_all_hold dc__law_all_hold pm__law_all_hold an__law_all_hold cd__law_all_hold ct__law_all_hold), sl__law_all_hold⟩) (c__law_all_hold : PySem.W.codeIn K cd__law_all_hold "_law_all_hold" = true) (k__law_all_hold : PySem.W.keepIn K (.ref f__law_all_hold) = true)
    (a__law_follows : PySem.W.nsIn K mainGlobals "_law_follows" = some (some (.ref f__law_follows))) (l__law_follows : K.lookup f__law_follows = some ⟨oc__law_follows, od__law_follows, .func (PySem.W.fnOf "_law_follows" "_law_follows" (defArgs s__law_follows) (defBody s__law_follows) (defScope s__law_follows) .none kV__law_follows dc__law_follows pm__law_follows an__law_follows cd__law_follows ct__law_follows), sl__law_follows⟩) (c__law_follows : PySem.W.codeIn K cd__law_follows "_law_follows" = true) (k__law_follows : PySem.W.keepIn K (.ref f__law_follows) = true)
    (a__law_normal : PySem.W.nsIn K mainGlobals "_law_normal" = some (some (.ref f__law_normal))) (l__law_normal : K.lookup f__law_normal = some ⟨oc__law_normal, od__law_normal, .func (PySem.W.fnOf "_law_normal" "_law_normal" (defArgs s__law_normal) (defBody s__law_normal) (defScope s__law_normal) .none kV__law_normal dc__law_normal pm__law_normal an__law_normal cd__law_normal ct__law_normal), sl__law_normal⟩) (c__law_normal : PySem.W.codeIn K cd__law_normal "_law_normal" = true) (k__law_normal : PySem.W.keepIn K (.ref f__law_normal) = true)
    (a__law_is : PySem.W.nsIn K mainGlobals "_law_is" = some (some (.ref f__law_is))) (l__law_is : K.lookup f__law_is = some ⟨oc__law_is, od__law_is, .func (PySem.W.fnOf "_law_is" "_law_is" (defArgs s__law_is) (defBody s__law_is) (defScope s__law_is) .none kV__law_is dc__law_is pm__law_is an__law_is cd__law_is ct__law_is), sl__law_is⟩) (c__law_is : PySem.W.codeIn K cd__law_is "_law_is" = true) (k__law_is : PySem.W.keepIn K (.ref f__law_is) = true)
    (a__law_table : PySem.W.nsIn K mainGlobals "_law_table" = some (some (.ref f__law_table))) (l__law_table : K.lookup f__law_table = some ⟨oc__law_table, od__law_table, .func (PySem.W.fnOf "_law_table" "_law_table" (defArgs s__law_table) (defBody s__law_table) (defScope s__law_table) .none kV__law_table dc__law_table pm__law_table an__law_table cd__law_table ct__law_table), sl__law_table⟩) (c__law_table : PySem.W.codeIn K cd__law_table "_law_table" = true) (k__law_table : PySem.W.keepIn K (.ref f__law_table) = true)
    (a__law_new : PySem.W.nsIn K mainGlobals "_law_new" = some (some (.ref f__law_new))) (l__law_new : K.lookup f__law_new = some ⟨oc__law_new, od__law_new, .func (PySem.W.fnOf "_law_new" "_law_new" (defArgs s__law_new) (defBody s__law_new) (defScope s__law_new) .none kV__law_new dc__law_new pm__law_new an__law_new cd__law_new ct__law_new), sl__law_new⟩) (c__law_new : PySem.W.codeIn K cd__law_new "_law_new" = true) (k__law_new : PySem.W.keepIn K (.ref f__law_new) = true)
    (a__law_renamed : PySem.W.nsIn K mainGlobals "_law_renamed" = some (some (.ref f__law_renamed))) (l__law_renamed : K.lookup f__law_renamed = some ⟨oc__law_renamed, od__law_renamed, .func (PySem.W.fnOf "_law_renamed" "_law_renamed" (defArgs s__law_renamed) (defBody s__law_renamed) (defScope s__law_renamed) .none kV__law_renamed dc__law_renamed pm__law_renamed an__law_renamed cd__law_renamed ct__law_renamed), sl__law_renamed⟩) (c__law_renamed : PySem.W.codeIn K cd__law_renamed "_law_renamed" = true) (k__law_renamed : PySem.W.keepIn K (.ref f__law_renamed) = true)
    (a_law : PySem.W.nsIn K mainGlobals "law" = some (some (.ref f_law))) (l_law : K.lookup f_law = some ⟨oc_law, od_law, .func (PySem.W.fnOf "law" "law" (defArgs s_law) (defBody s_law) (defScope s_law) .none kV_law dc_law pm_law an_law cd_law ct_law), sl_law⟩) (c_law : PySem.W.codeIn K cd_law "law" = true) (k_law : PySem.W.keepIn K (.ref f_law) = true)
    (z_set : PySem.W.nsIn K mainGlobals "set" = some none)
    (z_sorted : PySem.W.nsIn K mainGlobals "sorted" = some none)
    (z_tuple : PySem.W.nsIn K mainGlobals "tuple" = some none)
    (z_len : PySem.W.nsIn K mainGlobals "len" = some none)
    (z_list : PySem.W.nsIn K mainGlobals "list" = some none)
    (z_int : PySem.W.nsIn K mainGlobals "int" = some none)
    (z_range : PySem.W.nsIn K mainGlobals "range" = some none)
    (z_isinstance : PySem.W.nsIn K mainGlobals "isinstance" = some none)
    (z_bool : PySem.W.nsIn K mainGlobals "bool" = some none)
    : ∃ fd : FuncData, (∀ (s : Shared) (v : Value), BindsTo s fd ⟨[v], []⟩ [("_law_script", v)]) ∧ ∀ base : Heap, K.In base → base.Ns mainGlobals mg → FnOk l.prog w K mg base CX0 9 fa fd ["_law_script"] (spLaw K) := by
  have e := hfa.symm.trans (PySem.W.mg_of X G a_law)
  cases e
  have F_Mnormal := fun_mk (x := "normal") (qual := "Bits.normal") (st := s_Bits_normal) l_Mnormal c_Mnormal k_Mnormal
  have b_Mnormal := F_Mnormal.binds (ps := ["self", "theory"]) fun _ _ _ _ _ _ us hl => match us, hl with | [_, _], _ => rfl
  have F_Mrename := fun_mk (x := "rename") (qual := "Bits.rename") (st := s_Bits_rename) l_Mrename c_Mrename k_Mrename
  have b_Mrename := F_Mrename.binds (ps := ["self", "theory", "table"]) fun _ _ _ _ _ _ us hl => match us, hl with | [_, _, _], _ => rfl
  have F_Mpin := fun_mk (x := "pin") (qual := "Bits.pin") (st := s_Bits_pin) l_Mpin c_Mpin k_Mpin
  have b_Mpin := F_Mpin.binds (ps := ["self", "names", "assignment"]) fun _ _ _ _ _ _ us hl => match us, hl with | [_, _, _], _ => rfl
  have F_Mcontradiction := fun_mk (x := "contradiction") (qual := "Bits.contradiction") (st := s_Bits_contradiction) l_Mcontradiction c_Mcontradiction k_Mcontradiction
  have b_Mcontradiction := F_Mcontradiction.binds (ps := ["self"]) fun _ _ _ _ _ _ us hl => match us, hl with | [_], _ => rfl
  have F_merge_names := fun_mk (x := "merge_names") (qual := "merge_names") (st := s_merge_names) l_merge_names c_merge_names k_merge_names
  have F_replace_names := fun_mk (x := "replace_names") (qual := "replace_names") (st := s_replace_names) l_replace_names c_replace_names k_replace_names
  have b_replace_names := F_replace_names.binds (ps := ["names", "table"]) fun _ _ _ _ _ _ us hl => match us, hl with | [_, _], _ => rfl
  have F_everything := fun_mk (x := "everything") (qual := "everything") (st := s_everything) l_everything c_everything k_everything
  have b_everything := F_everything.binds (ps := ["names"]) fun _ _ _ _ _ _ us hl => match us, hl with | [_], _ => rfl
  have F__half := fun_mk (x := "_half") (qual := "_half") (st := s__half) l__half c__half k__half
  have b__half := F__half.binds (ps := ["names"]) fun _ _ _ _ _ _ us hl => match us, hl with | [_], _ => rfl
  have F_when_decided := fun_mk (x := "when_decided") (qual := "when_decided") (st := s_when_decided) l_when_decided c_when_decided k_when_decided
  have b_when_decided := F_when_decided.binds (ps := ["clauses", "name", "value"]) fun _ _ _ _ _ _ us hl => match us, hl with | [_, _, _], _ => rfl
  have F_failing := fun_mk (x := "failing") (qual := "failing") (st := s_failing) l_failing c_failing k_failing
  have b_failing := F_failing.binds (ps := ["names", "clauses"]) fun _ _ _ _ _ _ us hl => match us, hl with | [_, _], _ => rfl
  have F_prime_clauses := fun_mk (x := "prime_clauses") (qual := "prime_clauses") (st := s_prime_clauses) l_prime_clauses c_prime_clauses k_prime_clauses
  have b_prime_clauses := F_prime_clauses.binds (ps := ["names", "fails"]) fun _ _ _ _ _ _ us hl => match us, hl with | [_, _], _ => rfl
  have F__law_source := fun_mk (x := "_law_source") (qual := "_law_source") (st := s__law_source) l__law_source c__law_source k__law_source
  have b__law_source := F__law_source.binds (ps := ["_law_script", "_law_k"]) fun _ _ _ _ _ _ us hl => match us, hl with | [_, _], _ => rfl
  have F__law_draw := fun_mk (x := "_law_draw") (qual := "_law_draw") (st := s__law_draw) l__law_draw c__law_draw k__law_draw
  have b__law_draw := F__law_draw.binds (ps := ["_law_source_here", "_law_limit"]) fun _ _ _ _ _ _ us hl => match us, hl with | [_, _], _ => rfl
  have F__law_names := fun_mk (x := "_law_names") (qual := "_law_names") (st := s__law_names) l__law_names c__law_names k__law_names
  have b__law_names := F__law_names.binds (ps := ["_law_source_here", "_law_most"]) fun _ _ _ _ _ _ us hl => match us, hl with | [_, _], _ => rfl
  have F__law_clauses := fun_mk (x := "_law_clauses") (qual := "_law_clauses") (st := s__law_clauses) l__law_clauses c__law_clauses k__law_clauses
  have b__law_clauses := F__law_clauses.binds (ps := ["_law_source_here", "_law_names_here"]) fun _ _ _ _ _ _ us hl => match us, hl with | [_, _], _ => rfl
  have F__law_same_solutions := fun_mk (x := "_law_same_solutions") (qual := "_law_same_solutions") (st := s__law_same_solutions) l__law_same_solutions c__law_same_solutions k__law_same_solutions
  have b__law_same_solutions := F__law_same_solutions.binds (ps := ["_law_source_here", "_law_names_here", "_law_clauses_here"]) fun _ _ _ _ _ _ us hl => match us, hl with | [_, _, _], _ => rfl
  have F__law_rows := fun_mk (x := "_law_rows") (qual := "_law_rows") (st := s__law_rows) l__law_rows c__law_rows k__law_rows
  have b__law_rows := F__law_rows.binds (ps := ["_law_names_here"]) fun _ _ _ _ _ _ us hl => match us, hl with | [_], _ => rfl
  have F__law_all_clauses := fun_mk (x := "_law_all_clauses") (qual := "_law_all_clauses") (st := s__law_all_clauses) l__law_all_clauses c__law_all_clauses k__law_all_clauses
  have b__law_all_clauses := F__law_all_clauses.binds (ps := ["_law_names_here"]) fun _ _ _ _ _ _ us hl => match us, hl with | [_], _ => rfl
  have F__law_holds := fun_mk (x := "_law_holds") (qual := "_law_holds") (st := s__law_holds) l__law_holds c__law_holds k__law_holds
  have b__law_holds := F__law_holds.binds (ps := ["_law_clause", "_law_row"]) fun _ _ _ _ _ _ us hl => match us, hl with | [_, _], _ => rfl
  have F__law_all_hold := fun_mk (x := "_law_all_hold") (qual := "_law_all_hold") (st := s__law_all_hold) l__law_all_hold c__law_all_hold k__law_all_hold
  have b__law_all_hold := F__law_all_hold.binds (ps := ["_law_clauses_here", "_law_row"]) fun _ _ _ _ _ _ us hl => match us, hl with | [_, _], _ => rfl
  have F__law_follows := fun_mk (x := "_law_follows") (qual := "_law_follows") (st := s__law_follows) l__law_follows c__law_follows k__law_follows
  have b__law_follows := F__law_follows.binds (ps := ["_law_clause", "_law_solutions"]) fun _ _ _ _ _ _ us hl => match us, hl with | [_, _], _ => rfl
  have F__law_normal := fun_mk (x := "_law_normal") (qual := "_law_normal") (st := s__law_normal) l__law_normal c__law_normal k__law_normal
  have b__law_normal := F__law_normal.binds (ps := ["_law_names_here", "_law_clauses_here"]) fun _ _ _ _ _ _ us hl => match us, hl with | [_, _], _ => rfl
  have F__law_is := fun_mk (x := "_law_is") (qual := "_law_is") (st := s__law_is) l__law_is c__law_is k__law_is
  have b__law_is := F__law_is.binds (ps := ["_law_actual", "_law_names_here", "_law_clauses_here"]) fun _ _ _ _ _ _ us hl => match us, hl with | [_, _, _], _ => rfl
  have F__law_table := fun_mk (x := "_law_table") (qual := "_law_table") (st := s__law_table) l__law_table c__law_table k__law_table
  have b__law_table := F__law_table.binds (ps := ["_law_source_here", "_law_names_here"]) fun _ _ _ _ _ _ us hl => match us, hl with | [_, _], _ => rfl
  have F__law_new := fun_mk (x := "_law_new") (qual := "_law_new") (st := s__law_new) l__law_new c__law_new k__law_new
  have b__law_new := F__law_new.binds (ps := ["_law_table_here", "_law_name"]) fun _ _ _ _ _ _ us hl => match us, hl with | [_, _], _ => rfl
  have F__law_renamed := fun_mk (x := "_law_renamed") (qual := "_law_renamed") (st := s__law_renamed) l__law_renamed c__law_renamed k__law_renamed
  have b__law_renamed := F__law_renamed.binds (ps := ["_law_table_here", "_law_clauses_here"]) fun _ _ _ _ _ _ us hl => match us, hl with | [_, _], _ => rfl
  have F_law := fun_mk (x := "law") (qual := "law") (st := s_law) l_law c_law k_law
  have m_set := PySem.W.mg_none_of X G z_set
  have m_sorted := PySem.W.mg_none_of X G z_sorted
  have m_tuple := PySem.W.mg_none_of X G z_tuple
  have m_len := PySem.W.mg_none_of X G z_len
  have m_list := PySem.W.mg_none_of X G z_list
  have m_int := PySem.W.mg_none_of X G z_int
  have m_range := PySem.W.mg_none_of X G z_range
  have m_isinstance := PySem.W.mg_none_of X G z_isinstance
  have m_bool := PySem.W.mg_none_of X G z_bool
  have cl : Cls K C := ⟨pg, hd, po, sa⟩
  have B_Bits : Mk0.Bare K mg "Bits" C := ⟨mk, ini, kc, PySem.W.mg_of X G aC⟩
  refine ⟨PySem.W.fnOf "law" "law" (defArgs s_law) (defBody s_law) (defScope s_law) .none kV_law dc_law pm_law an_law cd_law ct_law, fun s v => .of_eq rfl, fun base _ _ => ?_⟩
  have C_merge_names : CalR l.prog w K mg base "merge_names" 1 (spMerge K) := ⟨_, ok_merge_names (F := F_merge_names) (m_set := m_set) (m_sorted := m_sorted) (m_tuple := m_tuple), PySem.W.mg_of X G a_merge_names, F_merge_names.kp⟩
  have C_replace_names : Cal l.prog w K mg base "replace_names" 1 ["names", "table"] (spRepl K) := ⟨_, _, ok_repl (F := F_replace_names) , PySem.W.mg_of X G a_replace_names, F_replace_names.kp, b_replace_names⟩
  have C_everything : Cal l.prog w K mg base "everything" 1 ["names"] (spEv K) := ⟨_, _, ok_everything (F := F_everything) (m_len := m_len), PySem.W.mg_of X G a_everything, F_everything.kp, b_everything⟩
  have C__half : Cal l.prog w K mg base "_half" 1 ["names"] (spHalf K) := ⟨_, _, ok_half (F := F__half) (m_len := m_len), PySem.W.mg_of X G a__half, F__half.kp, b__half⟩
  have C_when_decided : Cal l.prog w K mg base "when_decided" 1 ["clauses", "name", "value"] (spWD K) := ⟨_, _, ok_when (F := F_when_decided) (m_tuple := m_tuple), PySem.W.mg_of X G a_when_decided, F_when_decided.kp, b_when_decided⟩
  have C_failing : Cal l.prog w K mg base "failing" 7 ["names", "clauses"] (spFail K 6) := ⟨_, _, ok_failing F_failing C_everything C__half C_when_decided (PySem.W.mg_of X G a_failing) F_failing.kp b_failing 6, PySem.W.mg_of X G a_failing, F_failing.kp, b_failing⟩
  have C_prime_clauses : Cal l.prog w K mg base "prime_clauses" 7 ["names", "fails"] (spPr K 6) := ⟨_, _, ok_primes F_prime_clauses C_everything C__half (PySem.W.mg_of X G a_prime_clauses) F_prime_clauses.kp b_prime_clauses 6, PySem.W.mg_of X G a_prime_clauses, F_prime_clauses.kp, b_prime_clauses⟩
  have M_normal : MthC l.prog w K mg base C "normal" 8 ["self", "theory"] (spNorm K) := ⟨_, _, cl, ⟨a_Mnormal, i_Mnormal, k_Mnormal⟩, ok_normal (F := F_Mnormal) (m_tuple := m_tuple) (m_sorted := m_sorted) (m_list := m_list) (C_failing := C_failing) (C_prime_clauses := C_prime_clauses), b_Mnormal⟩
  have M_rename : MthC l.prog w K mg base C "rename" 2 ["self", "theory", "table"] (spRen K) := ⟨_, _, cl, ⟨a_Mrename, i_Mrename, k_Mrename⟩, ok_rename (F := F_Mrename) (m_tuple := m_tuple) (m_sorted := m_sorted) (C_merge_names := C_merge_names) (C_replace_names := C_replace_names), b_Mrename⟩
  have M_pin : MthC l.prog w K mg base C "pin" 1 ["self", "names", "assignment"] (spPin K) := ⟨_, _, cl, ⟨a_Mpin, i_Mpin, k_Mpin⟩, ok_pin (F := F_Mpin) (m_tuple := m_tuple), b_Mpin⟩
  have M_contradiction : MthC l.prog w K mg base C "contradiction" 1 ["self"] (spContr K) := ⟨_, _, cl, ⟨a_Mcontradiction, i_Mcontradiction, k_Mcontradiction⟩, ok_contr (F := F_Mcontradiction) , b_Mcontradiction⟩
  have C__law_source : Cal l.prog w K mg base "_law_source" 1 ["_law_script", "_law_k"] (spSource K) := ⟨_, _, ok_source (F := F__law_source) (m_len := m_len) (m_int := m_int), PySem.W.mg_of X G a__law_source, F__law_source.kp, b__law_source⟩
  have C__law_draw : Cal l.prog w K mg base "_law_draw" 1 ["_law_source_here", "_law_limit"] spDraw := ⟨_, _, ok_draw (F := F__law_draw) (m_int := m_int), PySem.W.mg_of X G a__law_draw, F__law_draw.kp, b__law_draw⟩
  have C__law_names : Cal l.prog w K mg base "_law_names" 2 ["_law_source_here", "_law_most"] (spNames K) := ⟨_, _, ok_names (F := F__law_names) (m_range := m_range) (m_len := m_len) (m_tuple := m_tuple) (m_sorted := m_sorted) (C__law_draw := C__law_draw), PySem.W.mg_of X G a__law_names, F__law_names.kp, b__law_names⟩
  have C__law_clauses : Cal l.prog w K mg base "_law_clauses" 2 ["_law_source_here", "_law_names_here"] (spClauses K) := ⟨_, _, ok_clauses (F := F__law_clauses) (m_range := m_range) (m_len := m_len) (m_tuple := m_tuple) (C__law_draw := C__law_draw), PySem.W.mg_of X G a__law_clauses, F__law_clauses.kp, b__law_clauses⟩
  have C__law_same_solutions : Cal l.prog w K mg base "_law_same_solutions" 2 ["_law_source_here", "_law_names_here", "_law_clauses_here"] (spSame K) := ⟨_, _, ok_same (F := F__law_same_solutions) (m_len := m_len) (m_tuple := m_tuple) (m_sorted := m_sorted) (C__law_draw := C__law_draw), PySem.W.mg_of X G a__law_same_solutions, F__law_same_solutions.kp, b__law_same_solutions⟩
  have C__law_rows : Cal l.prog w K mg base "_law_rows" 1 ["_law_names_here"] (spRows K) := ⟨_, _, ok_rows (F := F__law_rows) (m_list := m_list), PySem.W.mg_of X G a__law_rows, F__law_rows.kp, b__law_rows⟩
  have C__law_all_clauses : Cal l.prog w K mg base "_law_all_clauses" 1 ["_law_names_here"] (spAll K) := ⟨_, _, ok_all (F := F__law_all_clauses) (m_list := m_list), PySem.W.mg_of X G a__law_all_clauses, F__law_all_clauses.kp, b__law_all_clauses⟩
  have C__law_holds : Cal l.prog w K mg base "_law_holds" 1 ["_law_clause", "_law_row"] (spLHold K) := ⟨_, _, ok_lholds (F := F__law_holds) , PySem.W.mg_of X G a__law_holds, F__law_holds.kp, b__law_holds⟩
  have C__law_all_hold : Cal l.prog w K mg base "_law_all_hold" 2 ["_law_clauses_here", "_law_row"] (spAllH K) := ⟨_, _, ok_all_hold (F := F__law_all_hold) (C__law_holds := C__law_holds), PySem.W.mg_of X G a__law_all_hold, F__law_all_hold.kp, b__law_all_hold⟩
  have C__law_follows : Cal l.prog w K mg base "_law_follows" 2 ["_law_clause", "_law_solutions"] (spFoll K) := ⟨_, _, ok_follows (F := F__law_follows) (C__law_holds := C__law_holds), PySem.W.mg_of X G a__law_follows, F__law_follows.kp, b__law_follows⟩
  have C__law_normal : Cal l.prog w K mg base "_law_normal" 3 ["_law_names_here", "_law_clauses_here"] (spLNorm K) := ⟨_, _, ok_lnorm (F := F__law_normal) (m_len := m_len) (m_range := m_range) (m_sorted := m_sorted) (C__law_rows := C__law_rows) (C__law_all_hold := C__law_all_hold) (C__law_all_clauses := C__law_all_clauses) (C__law_follows := C__law_follows), PySem.W.mg_of X G a__law_normal, F__law_normal.kp, b__law_normal⟩
  have C__law_is : Cal l.prog w K mg base "_law_is" 1 ["_law_actual", "_law_names_here", "_law_clauses_here"] (spLIs K) := ⟨_, _, ok_lis (F := F__law_is) (m_isinstance := m_isinstance) (m_tuple := m_tuple) (m_len := m_len) (m_range := m_range) (m_int := m_int) (m_bool := m_bool), PySem.W.mg_of X G a__law_is, F__law_is.kp, b__law_is⟩
  have C__law_table : Cal l.prog w K mg base "_law_table" 2 ["_law_source_here", "_law_names_here"] (spTable K) := ⟨_, _, ok_table (F := F__law_table) (m_len := m_len) (C__law_draw := C__law_draw), PySem.W.mg_of X G a__law_table, F__law_table.kp, b__law_table⟩
  have C__law_new : Cal l.prog w K mg base "_law_new" 1 ["_law_table_here", "_law_name"] (spNew K) := ⟨_, _, ok_new (F := F__law_new) , PySem.W.mg_of X G a__law_new, F__law_new.kp, b__law_new⟩
  have C__law_renamed : Cal l.prog w K mg base "_law_renamed" 2 ["_law_table_here", "_law_clauses_here"] (spLRen K) := ⟨_, _, ok_lren (F := F__law_renamed) (m_sorted := m_sorted) (m_tuple := m_tuple) (C__law_new := C__law_new), PySem.W.mg_of X G a__law_renamed, F__law_renamed.kp, b__law_renamed⟩
  exact ok_law F_law (m_tuple := m_tuple) (m_sorted := m_sorted) (B_Bits := B_Bits) (M_normal := M_normal) (M_rename := M_rename) (M_pin := M_pin) (M_contradiction := M_contradiction) (C__law_source := C__law_source) (C__law_draw := C__law_draw) (C__law_names := C__law_names) (C__law_clauses := C__law_clauses) (C__law_normal := C__law_normal) (C__law_is := C__law_is) (C__law_same_solutions := C__law_same_solutions) (C__law_table := C__law_table) (C__law_renamed := C__law_renamed)
end K10
open PySem PySem.W PyProof.Rows
set_option maxRecDepth 100000 in
set_option maxHeartbeats 0 in
theorem PySem.Challenge.cw_shadowlinks_k10_bits_normal_forms_holds : PySem.Challenge.rw_shadowlinks_k10_bits_normal_forms.Holds := by
  w_on; o_law; k_head; (case hw => w_witness2)
  k_fill
  refine L2.walk_of (l := PySem.Challenge.rw_shadowlinks_k10_bits_normal_forms) (n := 63) (k := 9) (x := "_law_script") (CX := fun _ => L2.CX0) (sp := fun w => K10.spLaw _) rfl (by decide) rfl ⟨rfl, by decide, by decide⟩ (fun w h Y => PySem.W.kIn_of Y) ?F (fun _ _ a ns hl _ hS => ⟨a, ns, rfl, hS, hl, fun _ => rfl⟩) (fun _ _ _ _ _ h => h)
  case F =>
    intro w mg fa h KX G hmg
    refine' K10.all_mk KX G hmg ?aC ?pg ?hd ?po ?sa ?mk ?kc ?ini ?a_Mnormal ?l_Mnormal ?c_Mnormal ?k_Mnormal ?i_Mnormal ?a_Mrename ?l_Mrename ?c_Mrename ?k_Mrename ?i_Mrename ?a_Mpin ?l_Mpin ?c_Mpin ?k_Mpin ?i_Mpin ?a_Mcontradiction ?l_Mcontradiction ?c_Mcontradiction ?k_Mcontradiction ?i_Mcontradiction ?a_merge_names ?l_merge_names ?c_merge_names ?k_merge_names ?a_replace_names ?l_replace_names ?c_replace_names ?k_replace_names ?a_everything ?l_everything ?c_everything ?k_everything ?a__half ?l__half ?c__half ?k__half ?a_when_decided ?l_when_decided ?c_when_decided ?k_when_decided ?a_failing ?l_failing ?c_failing ?k_failing ?a_prime_clauses ?l_prime_clauses ?c_prime_clauses ?k_prime_clauses ?a__law_source ?l__law_source ?c__law_source ?k__law_source ?a__law_draw ?l__law_draw ?c__law_draw ?k__law_draw ?a__law_names ?l__law_names ?c__law_names ?k__law_names ?a__law_clauses ?l__law_clauses ?c__law_clauses ?k__law_clauses ?a__law_same_solutions ?l__law_same_solutions ?c__law_same_solutions ?k__law_same_solutions ?a__law_rows ?l__law_rows ?c__law_rows ?k__law_rows ?a__law_all_clauses ?l__law_all_clauses ?c__law_all_clauses ?k__law_all_clauses ?a__law_holds ?l__law_holds ?c__law_holds ?k__law_holds ?a__law_all_hold ?l__law_all_hold ?c__law_all_hold ?k__law_all_hold ?a__law_follows ?l__law_follows ?c__law_follows ?k__law_follows ?a__law_normal ?l__law_normal ?c__law_normal ?k__law_normal ?a__law_is ?l__law_is ?c__law_is ?k__law_is ?a__law_table ?l__law_table ?c__law_table ?k__law_table ?a__law_new ?l__law_new ?c__law_new ?k__law_new ?a__law_renamed ?l__law_renamed ?c__law_renamed ?k__law_renamed ?a_law ?l_law ?c_law ?k_law ?z_set ?z_sorted ?z_tuple ?z_len ?z_list ?z_int ?z_range ?z_isinstance ?z_bool
    (case aC => k_is)
    (case pg => k_is)
    (case hd => k_is)
    (case po => k_is)
    (case sa => k_is)
    (case mk => k_is)
    (case kc => k_is)
    (case ini => k_is)
    (case a_Mnormal => k_is)
    (case l_Mnormal => k_is)
    (case c_Mnormal => k_is)
    (case k_Mnormal => k_is)
    (case i_Mnormal => k_is)
    (case a_Mrename => k_is)
    (case l_Mrename => k_is)
    (case c_Mrename => k_is)
    (case k_Mrename => k_is)
    (case i_Mrename => k_is)
    (case a_Mpin => k_is)
    (case l_Mpin => k_is)
    (case c_Mpin => k_is)
    (case k_Mpin => k_is)
    (case i_Mpin => k_is)
    (case a_Mcontradiction => k_is)
    (case l_Mcontradiction => k_is)
    (case c_Mcontradiction => k_is)
    (case k_Mcontradiction => k_is)
    (case i_Mcontradiction => k_is)
    (case a_merge_names => k_is)
    (case l_merge_names => k_is)
    (case c_merge_names => k_is)
    (case k_merge_names => k_is)
    (case a_replace_names => k_is)
    (case l_replace_names => k_is)
    (case c_replace_names => k_is)
    (case k_replace_names => k_is)
    (case a_everything => k_is)
    (case l_everything => k_is)
    (case c_everything => k_is)
    (case k_everything => k_is)
    (case a__half => k_is)
    (case l__half => k_is)
    (case c__half => k_is)
    (case k__half => k_is)
    (case a_when_decided => k_is)
    (case l_when_decided => k_is)
    (case c_when_decided => k_is)
    (case k_when_decided => k_is)
    (case a_failing => k_is)
    (case l_failing => k_is)
    (case c_failing => k_is)
    (case k_failing => k_is)
    (case a_prime_clauses => k_is)
    (case l_prime_clauses => k_is)
    (case c_prime_clauses => k_is)
    (case k_prime_clauses => k_is)
    (case a__law_source => k_is)
    (case l__law_source => k_is)
    (case c__law_source => k_is)
    (case k__law_source => k_is)
    (case a__law_draw => k_is)
    (case l__law_draw => k_is)
    (case c__law_draw => k_is)
    (case k__law_draw => k_is)
    (case a__law_names => k_is)
    (case l__law_names => k_is)
    (case c__law_names => k_is)
    (case k__law_names => k_is)
    (case a__law_clauses => k_is)
    (case l__law_clauses => k_is)
    (case c__law_clauses => k_is)
    (case k__law_clauses => k_is)
    (case a__law_same_solutions => k_is)
    (case l__law_same_solutions => k_is)
    (case c__law_same_solutions => k_is)
    (case k__law_same_solutions => k_is)
    (case a__law_rows => k_is)
    (case l__law_rows => k_is)
    (case c__law_rows => k_is)
    (case k__law_rows => k_is)
    (case a__law_all_clauses => k_is)
    (case l__law_all_clauses => k_is)
    (case c__law_all_clauses => k_is)
    (case k__law_all_clauses => k_is)
    (case a__law_holds => k_is)
    (case l__law_holds => k_is)
    (case c__law_holds => k_is)
    (case k__law_holds => k_is)
    (case a__law_all_hold => k_is)
    (case l__law_all_hold => k_is)
    (case c__law_all_hold => k_is)
    (case k__law_all_hold => k_is)
    (case a__law_follows => k_is)
    (case l__law_follows => k_is)
    (case c__law_follows => k_is)
    (case k__law_follows => k_is)
    (case a__law_normal => k_is)
    (case l__law_normal => k_is)
    (case c__law_normal => k_is)
    (case k__law_normal => k_is)
    (case a__law_is => k_is)
    (case l__law_is => k_is)
    (case c__law_is => k_is)
    (case k__law_is => k_is)
    (case a__law_table => k_is)
    (case l__law_table => k_is)
    (case c__law_table => k_is)
    (case k__law_table => k_is)
    (case a__law_new => k_is)
    (case l__law_new => k_is)
    (case c__law_new => k_is)
    (case k__law_new => k_is)
    (case a__law_renamed => k_is)
    (case l__law_renamed => k_is)
    (case c__law_renamed => k_is)
    (case k__law_renamed => k_is)
    (case a_law => k_is)
    (case l_law => k_is)
    (case c_law => k_is)
    (case k_law => k_is)
    (case z_set => k_is)
    (case z_sorted => k_is)
    (case z_tuple => k_is)
    (case z_len => k_is)
    (case z_list => k_is)
    (case z_int => k_is)
    (case z_range => k_is)
    (case z_isinstance => k_is)
    (case z_bool => k_is)
#print axioms PySem.Challenge.cw_shadowlinks_k10_bits_normal_forms_holds
