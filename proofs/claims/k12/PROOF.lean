import PyProof.Rows.All
import Wide.All
import OpenK.AllK
import Wide.FinOn
import HandS.ExcInit
import HandS.Nested
import KE.KExcSuper
import HandS.ForExc
import PyProof.Rows.SortShellAny
import HandS.SetTxt0
import HandS.TupSets
import HandS.ForMost
import HandS.Walk
import HandS.IsInst
import HandS.IterVal
import HandS.Star
import HandS.Deep
import HandS.DictComp
import HandS.Zip
import HandS.ExcField
import HandS.ExcIs
import KE.KExcIs
import HandS.WordsExc
import HandS.FStr
import HandS.Defaults
import HandS.CallSlots
import HandS.Wide
import HandS.Style
import HandS.OwnEq
import HandS.Property
import OpenK.KMeth
import OpenK.KOps
import KE.KOpsOwn
import KE.KOwnIter
import KE.KDictPairs
import HandS.Gcd
import HandS.ClsMeth
import HandS.TupMul
import HandS.SetFor
import HandS.TupAny
import KE.DataFind
import HandS.TryMany
import HandS.OwnIter
import HandS.Iter
import HandS.Comp
import HandS.Dict
import KE.KDictKeyed
import KE.SortData
import KE.KeyNested
import PyProof.SetRoads
import KE.GoesEnumKw
import KE.GoesEnum
import HandS.TupLen
import HandS.Conv
import PySem.Challenge.RW_shadowlinks_k12_cuts_judged
set_option Elab.async false
set_option linter.all false
set_option maxRecDepth 100000
/-! An own exception's __init__ that begins with super().__init__(e), over ValueError. -/
namespace Sup
open PySem PySem.Spec PyProof.Rows L2 NdefX
abbrev vei : String := "ValueError.__init__"
def mwO (u a : Addr) : HO := .ext fun h => h.get? u = some (PySem.W.kxs_mw vei a)
theorem mwO_ok {P : Program} {w : World} {H : Hp} {h : Heap} {u a : Addr} (e : h.get? u = some (PySem.W.kxs_mw vei a)) : ObjOk P w H h u (mwO u a) := ⟨e, ⟨_, e⟩, fun h1 h2 z k => k _ z⟩
theorem mwO_at {P : Program} {w : World} {H : Hp} {h : Heap} {u a : Addr} (hok : HOk P w H h) (e : H u = some (mwO u a)) : h.get? u = some (PySem.W.kxs_mw vei a) := by
  have x : ObjOk P w H h u (.ext fun h => h.get? u = some (PySem.W.kxs_mw vei a)) := hok u _ e
  exact x.1
/-- what the written part says of a def that says super() -/
structure SupF (P : Program) (K : PySem.W.Frag) (mg : Str → Option Value) (env : Env) (sn : Str) (D : Addr) : Prop where
  ks : env.kindOf "super" = some .globalImplicit
  kc : env.kindOf "__class__" = some .free
  fn : ∃ (f : Addr) (oc : Value) (od : Option Addr) (fd : FuncData) (osl : Array (Option Value)) (ar : Arg), env.func = some f ∧ K.lookup f = some ⟨oc, od, .func fd, osl⟩ ∧ (fd.params.posonlyargs ++ fd.params.args).head? = some ar ∧ ar.arg = sn
  co : ∃ (cda : Addr) (ccl : Value) (cdd : Option Addr) (vs : Array Value) (ccs : Array (Option Value)) (file : Str) (tf : Tok), env.code = .ref cda ∧ K.lookup cda = some ⟨ccl, cdd, .fields vs, ccs⟩ ∧ vs[2]? = some (.str file tf) ∧ ((P.main.file : Str) == file) = true
  top : (P.main.scope.names.lookup ("super" : Str)).isSome = false
  ce : ∃ (cc : Addr) (cl : Value) (cld : Option Addr) (csl : Array (Option Value)), env.cells.lookup ("__class__" : Str) = some cc ∧ K.lookup cc = some ⟨cl, cld, .cell (some (.ref D)), csl⟩
  mg : mg "super" = none
  any : PySem.W.nsIn K cStatics "thirdparty.any" = some none
  it : interactive env = false
  ka : env.kindOf sn = some .local
/-- .. and of the class of the object -/
structure SupC (K : PySem.W.Frag) (C D : Addr) : Prop where
  cls : ∃ cd, PySem.W.clsIn K D = some cd
  sub : PySem.W.mroIn K C (.ref D) = some true
  sup : PySem.W.ks_superIn K C D "__init__" = some (some (.builtin vei))
  ve : PySem.W.subIn K (.ref C) (.type "ValueError") = some true
  exc : OexC K C
section
variable {X : Cx} {pins : List (Addr × Obj)} {σ : List (Option V)} {H : Hp} {s : Shared} {self : Str} {D a C : Addr} {body : List Stmt} {p0 p1 p2 pos pos' : Pos} {e : Expr} {te : TE}
theorem ld_super {E : Value → Shared → Prop} {Q : Value → Shared → Prop} (I : Inv X pins σ H s) (S : SupF X.prog X.K X.mg X.env self D) (h : Q (.type "super") s) : wpAny (model X.prog X.w) X.A (loadName X.env "super") Q E s := by
  obtain ⟨mb, h1, h2⟩ := I.mod.blt
  exact PySem.W.ks_loadName_global I.ok.kind S.ks (Calls.loadGlobal_builtin (by rw [I.ok.glob]; exact I.mod.glob.keeps I.bk) S.mg (by rw [I.ok.blt]; exact h1.keeps I.bk) ((h2 _ (by decide)).trans (by rfl)) h)
theorem self_at (I : Inv X pins σ H s) {u : V} (h1 : X.N[0]? = some self) (h2 : σ[0]? = some (some u)) (hk : X.env.kindOf self = some .local) : ∃ m v, s.heap.Ns X.env.locals m ∧ m self = some v ∧ RelV u v := by
  obtain ⟨m, hn, hl⟩ := I.loc
  obtain ⟨v, r, k⟩ := hl 0 self u h1 h2 (.inl hk)
  rcases k with ⟨_, k⟩ | ⟨k, _⟩
  · exact ⟨m, v, hn, k, r⟩
  · rcases k with k | k <;> · rw [hk] at k; cases k
theorem exo_inst {C a : Addr} (T : OexC X.K C) (I : Inv X pins σ H s) (e : H a = some (exo a C none)) : ∃ t1 : Addr, PySem.W.InstAt s.heap a { cls := .ref C, dict := none, data := .fields #[.ref t1, .none, .none, .none, .bool false, .none] } C none := by
  obtain ⟨t1, ho⟩ := exo_at I.hok e
  exact ⟨t1, ho, rfl, rfl, trivial⟩
/-- the wrapper called -/
theorem call_mw {u : Addr} {us : List Value} {Q : Value → Shared → Prop} {E : Value → Shared → Prop} {A : Around} (T : OexC X.K C) (I : Inv X pins σ H s) (eu : H u = some (mwO u a)) (ea : H a = some (exo a C none)) (hl : us.length ≤ sizeLine) (h : ∀ s', Inv X pins σ H s' → Q .none s') :
    wpAny (model X.prog X.w) A (call (.ref u) us) Q E s := by
  obtain ⟨nm, q, N, bs, bm, sn, sub, ab, col, dd, k0, k1, k2, k3, k5, hC, hbm⟩ := T.cls
  obtain ⟨t1, ho⟩ := exo_at I.hok ea
  have hu := mwO_at I.hok eu
  have hCh := I.kIn _ _ hC
  have FB := F.excBase_ValueError
  obtain ⟨hp, g, d, t, os⟩ := s
  refine wpAny_call (codeAny_of_tree ?_)
  show wpAny _ A.in1 (callAny (.ref u) ⟨us, []⟩) _ _ _
  simp only [callAny]
  refine wpAny_bind (wpAny_load hu ?_)
  simp only [PySem.W.kxs_mw, show (Value.type "method-wrapper" == Value.type "method" || Value.type "method-wrapper" == Value.type "builtin_function_or_method" || Value.type "method-wrapper" == Value.type "method-wrapper") = true by decide, if_true]
  refine PySem.W.KFB.if_so (by decide) ?_
  refine wpAny_bind (PySem.W.check_bound_init FB.toExcCallFacts hCh ho rfl ?_)
  refine wpAny_bind (wpAny_pure (wpAny_pure ?_))
  refine ⟨plainId_quiet FB.init.plain _, codeAny_builtin FB.initEntry ?_⟩
  refine PySem.W.exc_init_tree (cls := .ref C) (t0 := t1) (dv := none) (c2 := .none) (c3 := .none) (b4 := .bool false) ho hl fun h' k hx _ => ?_
  have J := I.write (t' := t) (x := a) (e := a) (o := exo a C none) (by rw [ea]; exact True.intro) (.inl rfl) k ⟨_, hx⟩ (exo_ok hx)
  have eu2 : upd H a (exo a C none) = H := by
    funext b
    by_cases hb : b = a
    · rw [hb, upd_same, ea]
    · rw [upd_ne hb]
  rw [eu2] at J
  exact h _ J
theorem sup_stmt {es : List Expr} {pl : Sem Bool} {ta : TA} {G : Hp → Prop} {Q : Flow → Shared → Prop} (I : Inv X pins σ H s) (S : SupF X.prog X.K X.mg X.env self D) (T : SupC X.K C D) (hN : X.N[0]? = some self) (h0 : σ[0]? = some (some (.ref a))) (ea : H a = some (exo a C none)) (ha : PA X (e :: es) ta)
    (h : ∀ u, H u = none → ta σ (upd H u (mwO u a)) fun vs H2 => vs.length ≤ 1000 ∧ H2 u = some (mwO u a) ∧ H2 a = some (exo a C none) ∧ G H2) (hq : ∀ H2 s', Inv X pins σ H2 s' → G H2 → Q .next s')
    (hev : eval (.Call (.Attribute (.Call (.Name "super" p0) [] [] p1) "__init__" p2) (e :: es) [] pos) X.env = (do
      let ov ← attributeBase (.Call (.Name "super" p0) [] [] p1) "__init__" X.env (eval (.Call (.Name "super" p0) [] [] p1) X.env)
      standAt p2.atName
      let (f, first) ← holding [ov] (getMethod ov "__init__" pl)
      callWith pos f first (backTo pos (starEach (e :: es) X.env)) []) := by rfl)
    (he : starEach (e :: es) X.env = (false, eval e X.env) :: starEach es X.env := by rfl) (hpl : (backTo pos (starEach es X.env)).any (·.1) = false := by rfl) :
    _root_.PySem.wpAt (model X.prog X.w) X.A (.func body X.env) (exec (.Expr (.Call (.Attribute (.Call (.Name "super" p0) [] [] p1) "__init__" p2) (e :: es) [] pos) pos') X.env) Q X.xe s := by
  refine ks_wpAt_Expr_any ?_ S.it
  refine ks_wpAt_MethodCall ?_ hev
  obtain ⟨f, oc, od, fd, osl, ar, hfu, lf, hp, har⟩ := S.fn
  obtain ⟨cda, ccl, cdd, vs, ccs, file, tf, hco, lc, hvs, hfile⟩ := S.co
  obtain ⟨cc, cl, cld, csl, hcl, lcc⟩ := S.ce
  obtain ⟨m, v, hn, hv, rv⟩ := self_at I hN h0 S.ka
  obtain rfl : v = Value.ref a := rv
  obtain ⟨t1, inst⟩ := exo_inst T.exc I ea
  obtain ⟨cdD, hD⟩ := T.cls
  have XK := I.kIn
  obtain ⟨oD, hD1, hD2⟩ : ∃ oD, s.heap.get? D = some oD ∧ oD.data = .cls cdD := by
    unfold PySem.W.clsIn at hD
    split at hD
    · rename_i c d cd' sl ho
      cases hD
      exact ⟨_, XK _ _ ho, rfl⟩
    · cases hD
  refine ks_wpAt_super_base S.ks S.kc (by decide) hfu (XK _ _ lf) rfl hp hco (XK _ _ lc) rfl hvs hfile S.top ?_
  refine ld_super I S ⟨rfl, ?_⟩
  refine wpAny_loadName_free I.ok.kind S.kc hcl ⟨_, XK _ _ lcc, rfl⟩ ?_
  refine wpAny_loadName_local I.ok.kind (har ▸ S.ka) hn (har ▸ hv) ?_
  refine ks_wpAny_isType_cls hD1 hD2 ⟨rfl, ?_⟩
  obtain ⟨hp0, g, d, t, os⟩ := s
  refine ks_wpAny_call_super hD1 hD2 inst.at_ rfl (fun c e => by cases e) (PySem.W.looks_mroIn XK T.sub) fun h' eso k => ?_
  have I2 : Inv X pins σ H ⟨h', g, d, t, os⟩ := I.kept (t' := t) k
  have XK2 := I2.kIn
  have sup := T.sup
  unfold PySem.W.ks_superIn at sup
  cases hc : PySem.W.clsIn X.K C with
  | none =>
    rw [hc] at sup
    cases sup
  | some cd =>
    rw [hc] at sup
    obtain ⟨t2, inst2⟩ := exo_inst T.exc I2 ea
    refine PySem.W.kxs_getMethod PySem.W.kxs_ValueError eso (PySem.W.looks_opaque XK2 S.any) (l₀ := cd.mro) ?_ rfl XK2 sup (inst2.type.andThen (PySem.W.looks_subIn XK2 T.ve)) (PySem.W.ks_ne XK2 inst2 hc) (by decide) ?_
    · exact fun A Q E s k q => wpAny_bind ((PySem.W.looks_clsIn XK2 hc) A _ E s k (wpAny_pure q))
    · have hnu : H h'.objs.size = none := I2.hok.fresh (Nat.le_refl _)
      have gu : (h'.push (PySem.W.kxs_mw vei a)).get? h'.objs.size = some (PySem.W.kxs_mw vei a) := Heap.get?_push_at rfl rfl
      have I3 : Inv X pins σ (upd H h'.objs.size (mwO h'.objs.size a)) ⟨h'.push (PySem.W.kxs_mw vei a), g, d, t + 1, os⟩ :=
        I2.laid (t' := t + 1) (fun b o e => Heap.get?_push_of_some _ e) (Nat.le_refl _) (mwO_ok gu)
      show wpAny _ _ (callWith pos (.ref h'.objs.size) [] (backTo pos (starEach (e :: es) X.env)) []) _ _ _
      have run := ha.run pos pins _ σ _ _ I3 (h _ hnu)
      rw [he] at run ⊢
      refine PySem.W.kxs_callWith (i := vei) (x := a) (by show (false || (backTo pos (starEach es X.env)).any (·.1)) = false; rw [hpl]; rfl) ?_
      refine Calls.evalArgs_plain (thn run fun us s1 ⟨vs, H1, I1, r1, hz, eu, ea1, hG⟩ => ⟨mwO_at I1.hok eu, ?_⟩)
      exact call_mw T.exc I1 eu ea1 (by show us.length ≤ _; rw [← Paired.length r1, sizeLine_eq]; omega) fun s' J => hq H1 s' J hG
end
section
variable {CX : CXT} {P : Program} {w : World} {K : PySem.W.Frag} {mg : Str → Option Value} {base : Heap} {k : Nat} {F : NF} {f cc D : Addr} {kV doc pm ct oc : Value} {an od : Option Addr} {osl : Array (Option Value)} {N ps : List Str} {sp : Sp} {self : Str} {e : Expr} {es : List Expr} {p0 p1 p2 pos pos' : Pos} {rest : List Stmt} {pl : Sem Bool}
theorem fn_sup (lk : K.lookup f = some ⟨oc, od, .func (PySem.W.fnX F.name F.qual F.params F.body F.scope F.cl .none kV doc pm an (.ref F.c) ct), osl⟩) (hcd : PySem.W.codeIn K (.ref F.c) F.qual = true) (hcl : F.cl = [(("__class__" : Str), cc)])
    (hcc : ∃ cl cld csl, K.lookup cc = some ⟨cl, cld, .cell (some (.ref D)), csl⟩) (S : NScope N ps ["__class__"] F.scope) (hF : ∀ L, SupF P K mg (envF F f L) self D) (hN : N[0]? = some self)
    (hbd : F.body = .Expr (.Call (.Attribute (.Call (.Name "super" p0) [] [] p1) "__init__" p2) (e :: es) [] pos) pos' :: rest)
    (len : ∀ vs H Q E, sp vs H Q E → vs.length = ps.length)
    (hbody : ∀ (A : Around) (outer : List Env) (s : Shared) (H : Hp) (vs : List V) (Q : VK) (E : XK), Room k (A.deeper (envF F f s.heap.objs.size)) → sp vs H Q E →
      ∃ (a C : Addr) (ta : TA) (t : TS), SupC K C D ∧ (startF N vs [none])[0]? = some (some (.ref a)) ∧ H a = some (exo a C none) ∧ PA (ncx CX P w K mg base N F f A outer s H E) (e :: es) ta ∧ PSs (ncx CX P w K mg base N F f A outer s H E) rest t ∧
        ∀ u, H u = none → ta (startF N vs [none]) (upd H u (mwO u a)) fun vs' H2 => vs'.length ≤ 1000 ∧ H2 u = some (mwO u a) ∧ H2 a = some (exo a C none) ∧ t { nx := fun _ H' => Q .non H', rt := Q } (startF N vs [none]) H2)
    (hev : ∀ L, eval (.Call (.Attribute (.Call (.Name "super" p0) [] [] p1) "__init__" p2) (e :: es) [] pos) (envF F f L) = (do
      let ov ← attributeBase (.Call (.Name "super" p0) [] [] p1) "__init__" (envF F f L) (eval (.Call (.Name "super" p0) [] [] p1) (envF F f L))
      standAt p2.atName
      let (g, first) ← holding [ov] (getMethod ov "__init__" pl)
      callWith pos g first (backTo pos (starEach (e :: es) (envF F f L))) []) := by intro L; rfl)
    (he : ∀ L, starEach (e :: es) (envF F f L) = (false, eval e (envF F f L)) :: starEach es (envF F f L) := by intro L; rfl) (hpl : ∀ L, (backTo pos (starEach es (envF F f L))).any (·.1) = false := by intro L; rfl) :
    FnOk P w K mg base CX (k + 1) f (PySem.W.fnX F.name F.qual F.params F.body F.scope F.cl .none kV doc pm an (.ref F.c) ct) ps sp := by
  refine ⟨len, fun A outer s H args us vs Q E hr e0 hb r hsp => ?_⟩
  have hl := len _ _ _ _ hsp
  have KX : K.In s.heap := e0.mod.kin.keeps fun b o e => (e0.bs b o e).1
  have lim : s.heap.NoLimit := e0.mod.nolimit.keeps fun b o e => (e0.bs b o e).1
  obtain ⟨cl, cld, csl, hcc⟩ := hcc
  have C : CellsAt F.cl ["__class__"] [none] s.heap H := by
    have one : ∀ {y : Str} {c : Addr}, F.cl.lookup y = some c → y = "__class__" ∧ c = cc := fun {y c} e => by
      rw [hcl] at e
      by_cases h : y = ("__class__" : Str)
      · subst h
        have e2 : some cc = some c := e
        exact ⟨rfl, (Option.some.inj e2).symm⟩
      · have h2 : (y == ("__class__" : Str)) = false := by simpa using h
        rw [List.lookup_cons, h2] at e
        cases e
    refine ⟨rfl, fun y c e => ?_, fun x y c e1 e2 => (one e1).1.trans (one e2).1.symm, fun i y hi => ?_⟩
    · rw [(one e).2]
      exact ⟨(e0.bs _ _ (e0.mod.kin _ _ hcc)).2, _, ⟨_, KX _ _ hcc, rfl⟩⟩
    · cases i with
      | zero =>
        have e : ("__class__" : Str) = y := Option.some.inj hi
        refine ⟨cc, by rw [hcl, ← e]; rfl, fun v hv => ?_⟩
        cases hv
      | succ i => cases hi
  refine ks_codeAny_call_defAt hr.depth (KX _ _ lk) rfl lim (PySem.W.codeRec_of KX hcd) rfl hb S.nocell (fun ⟨n, v⟩ hy => S.par n (List.of_mem_zip hy).1) (fun h₁ hns kp => ?_) S.co S.gen S.kind
  show _root_.PySem.wpAt (model P w) (A.deeper (envF F f s.heap.objs.size)) (.func F.body (envF F f s.heap.objs.size)) (execs F.body (envF F f s.heap.objs.size)) _ _ _
  obtain ⟨a, Ca, ta, t, hC, h0, ea, pa, ps', hq⟩ := hbody A outer s H vs Q E (hr.deeper _) hsp
  have I : Inv (ncx CX P w K mg base N F f A outer s H E) [] (startF N vs [none]) H { s with heap := h₁, toks := s.toks + (ps.zip us).length } := inv_startN S hr.hd e0 hl r C hns kp
  have fin : ∀ {s' : Shared} {σ' : L2.St} {H' : Hp} {v : V} {u : Value}, Inv (ncx CX P w K mg base N F f A outer s H E) [] σ' H' s' → L2.RelV v u → Q v H' → CE outer P w H s Q u s' :=
    fun {s' σ' H' v u} J rv q => ⟨v, H', J.os, J.bare, J.base, J.hok, rv, q⟩
  have main : ∀ (body : List Stmt), _root_.PySem.wpAt (model P w) (A.deeper (envF F f s.heap.objs.size)) (.func body (envF F f s.heap.objs.size)) (execs (.Expr (.Call (.Attribute (.Call (.Name "super" p0) [] [] p1) "__init__" p2) (e :: es) [] pos) pos' :: rest) (envF F f s.heap.objs.size))
      (fun fl s' => CR CX outer P w H s Q E (.ok (.ret (match fl with | .ret v => v | _ => .none))) s') (ncx CX P w K mg base N F f A outer s H E).xe { s with heap := h₁, toks := s.toks + (ps.zip us).length } := by
    intro body
    refine ks_wpAt_execs_cons ?_
    refine sup_stmt (X := ncx CX P w K mg base N F f A outer s H E) (body := body) (G := fun H2 => t { nx := fun _ H' => Q .non H', rt := Q } (startF N vs [none]) H2) I (hF _) hC hN h0 ea pa hq (fun H2 s' J hG => ?_) (hev _) (he _) (hpl _)
    refine wpAt_of_wpAny ?_
    refine wpAny_mono (ps'.run [] s' (startF N vs [none]) H2 _ J hG) (fun fl s' hs => ?_) fun e s' hs => hs
    cases fl with
    | ret u =>
      obtain ⟨v, σ', H', J, rv, q⟩ := hs
      exact fin J rv q
    | next =>
      obtain ⟨σ', H', J, q⟩ := hs
      exact fin (v := V.non) (u := Value.none) J rfl q
    | brk =>
      obtain ⟨_, _, _, q⟩ := hs
      exact False.elim q
    | cont =>
      obtain ⟨_, _, _, q⟩ := hs
      exact False.elim q
  have m2 := main F.body
  rw [← hbd] at m2
  exact m2
end
end Sup
/-! Sets of texts, made of a list or a tuple, and sorted: any texts, in whatever order the world walks them. -/
namespace Sx
open PySem PySem.Spec PyProof.Rows L2 PySem.Froz

/-! ### lists -/
/-- a list without twins whose members all stand in a list of the same length is that list in another order -/
theorem perm_of_sub : ∀ (l ks : List Str), l.Nodup → (∀ x, x ∈ l → x ∈ ks) → ks.length = l.length → l.Perm ks
  | [], ks, _, _, e => by
    have z : ks = [] := List.length_eq_zero_iff.mp e
    rw [z]
  | x :: l, ks, nd, sub, e => by
    obtain ⟨hx, nd'⟩ := List.nodup_cons.mp nd
    have hm : x ∈ ks := sub x List.mem_cons_self
    have p := List.perm_cons_erase hm
    have hl : (ks.erase x).length = l.length := by
      have q := p.length_eq
      simp only [List.length_cons] at q e
      omega
    refine ((perm_of_sub l (ks.erase x) nd' (fun y hy => ?_) hl).cons x).trans p.symm
    have hne : y ≠ x := fun z => hx (z ▸ hy)
    exact (List.mem_erase_of_ne hne).mpr (sub y (List.mem_cons_of_mem _ hy))

/-! ### the payload behind an add -/
theorem tail_ris {ep : Nat} {es : Array (Int × Value)} {t : SetTable} {d : Bool} (r : Ris t.place.toList) : Ris (tailTx ep es t d).2.2.place.toList := by
  unfold tailTx
  split
  · exact relayAll_ris t es _
  · exact r
theorem tail_led {ep : Nat} {es : Array (Int × Value)} {t : SetTable} {d : Bool} : (tailTx ep es t d).2.2.led = t.led := by
  unfold tailTx
  split
  · exact relayAll_led t es _
  · rfl
theorem add_ris {D : SD} (h : Int) (v : Value) (r : Ris D.2.2.place.toList) : Ris (addTx h v D).2.2.place.toList := by
  have r1 := layNew_ris D.2.2 D.1 h v r
  unfold addTx
  apply tail_ris
  split
  · exact r1
  · exact r1
theorem add_led {D : SD} (h : Int) (v : Value) : (addTx h v D).2.2.led = D.2.2.led := by
  have r1 := layNew_led D.2.2 D.1 h v
  unfold addTx
  rw [tail_led]
  split
  · exact r1
  · exact r1

/-- the set of the texts l stands at a -/
def SetX (P : Program) (w : World) (h : Heap) (a : Addr) (l : List Str) : Prop :=
  ∃ D : SD, h.get? a = some (sObj "set" D) ∧ TxOk P w D l ∧ l.Nodup ∧ Ris D.2.2.place.toList ∧ (w.params.followText "set-order" = true ∨ D.2.2.led = true)

section
variable {P : Program} {w : World} {A : Around} {E : Value → Shared → Prop} {s : Shared}

theorem SetX.at {h h' : Heap} {a : Addr} {l : List Str} (R : SetX P w h a l) (k : ∀ o, h.get? a = some o → h'.get? a = some o) : SetX P w h' a l := by
  obtain ⟨D, ho, r⟩ := R
  exact ⟨D, k _ ho, r⟩
theorem setX_fresh {h : Heap} {a : Addr} (ho : h.get? a = some { cls := .type "set", dict := none, data := .set #[] 0 (.fresh 0 0 (!w.params.followText "set-order")) }) : SetX P w h a [] := by
  refine ⟨(#[], 0, .fresh 0 0 (!w.params.followText "set-order")), ho, TxOk.nil rfl, List.nodup_nil, List.Pairwise.nil, ?_⟩
  show _ ∨ (!w.params.followText "set-order") = true
  cases w.params.followText "set-order"
  · exact .inr rfl
  · exact .inl rfl

/-- one text more, new or there already -/
theorem add_any {a : Addr} {l : List Str} {k : Str} {u : Tok} {Q : Bool → Shared → Prop} (R : SetX P w s.heap a l) (hb : l.length + 1 < scanBound)
    (hQ : ∀ b h' l', Heap.SameBut a s.heap h' → SetX P w h' a l' → (∀ x, x ∈ l' ↔ x = k ∨ x ∈ l) → l'.length ≤ l.length + 1 → Q b { s with heap := h' }) :
    wpAny (model P w) A (setAddHashed a (.str k u) (hashStr w k)) Q E s := by
  obtain ⟨D, ho, F, nd, r, hl⟩ := R
  rcases Classical.em (k ∈ l) with hk | hk
  · obtain ⟨es, ep, t⟩ := D
    have hd : (sObj "set" (es, ep, t)).data = .set es ep t := rfl
    have hf : t.fits es.size = true := F.fit
    have hel : ElemsOf (PySem.strKind P w) es.toList := F.el
    have hb0 : es.size < scanBound := by
      have z : es.size = l.length := F.sz
      omega
    have hkey : (PySem.strKind P w).is k (.str k u) = true := is_str k u
    unfold setAddHashed setAddHashedIn
    refine wpAny_holding (wpAny_bind (wpAny_setState_of ho hd hf ?_))
    dsimp only
    rw [byScan_of rfl hb0 hel]
    simp only [↓reduceIte]
    unfold setAddByScan
    refine wpAny_bind ?_
    refine wpAny_bind (wpAny_rule ?_)
    refine wpAny_bind (wpAny_setScan_of (knd := PySem.strKind P w) (k := k) hkey ho hd hf hel ?_)
    cases hfi : List.findIdx? (fun e => (PySem.strKind P w).is k e.2) es.toList with
    | none =>
      obtain ⟨e, he, q⟩ := (F.mem k).mp hk
      have c := List.findIdx?_eq_none_iff.mp hfi e he
      rw [q] at c
      cases c
    | some j =>
      dsimp only
      refine wpAny_pure (wpAny_pure ?_)
      exact hQ _ s.heap l (Heap.SameBut.refl a s.heap) ⟨(es, ep, t), ho, F, nd, r, hl⟩ (fun x => ⟨.inr, fun z => z.elim (fun e => e ▸ hk) id⟩) (Nat.le_succ _)
  · refine add_x ho F hk hb (hQ _ _ (k :: l) (Heap.SameBut.update s.heap a _) ⟨_, get_upd _ ho rfl, add_ok u F, List.nodup_cons.mpr ⟨hk, nd⟩, add_ris _ _ r, ?_⟩ (fun x => List.mem_cons) (Nat.le_refl _))
    exact hl.imp id fun z => by
      rw [add_led]
      exact z
end

/-! ### set(xs): the loop -/
section
variable {P : Program} {w : World} {A : Around} {R : Result → Shared → Prop} {I : Addr} {fp wr : List Addr} {G : Array GenState → Array GenState → Prop} {n : Nat} {Pv : Nat → Value → Prop} {St : Nat → Shared → Prop}
theorem fill_loop (W : WalksS P w A.in1 I fp wr G n Pv St) (S : Addr) (hSf : S ∉ fp) (xs : List Str) (hn : xs.length = n) (hval : ∀ i v, Pv i v → ∃ t, v = .str (xs.getD i Str.empty) t) (hb : n + 1 < scanBound) :
    ∀ (k i : Nat) (s : Shared) (l : List Str), n - i = k → i ≤ n → St i s → SetX P w s.heap S l → (∀ x, x ∈ l ↔ x ∈ xs.take i) → l.length ≤ i →
      (∀ s' l', Moved (S :: wr) G s s' → SetX P w s'.heap S l' → (∀ x, x ∈ l' ↔ x ∈ xs) → l'.length ≤ n → R (.ok (.ret .none)) s') →
      codeAny (model P w) A (.builtin "set.update.loop" ⟨[.ref S, .ref I], []⟩) R s := by
  have hSw : S ∉ wr := fun h => hSf (W.sub _ h)
  have hsub : ∀ b ∈ wr, b ∈ S :: wr := fun b hb => List.mem_cons_of_mem _ hb
  intro k
  induction k with
  | zero =>
    intro i s l hk hi hst hS hm hlen hR
    have hin : i = n := by omega
    subst hin
    refine codeAny_builtin PyProof.Rows.F.entry_set_update_loop ?_
    rw [Around.under_plainId PyProof.Rows.F.plain_set_update_loop _]
    show wpAny _ A.in1 (pyNext (.ref I) >>= _) _ _ s
    refine wpAny_bind (W.done s _ _ hst fun s' hmv => ?_)
    show wpAny _ A.in1 (ret Value.none) _ _ s'
    refine wpAny_pure (hR s' l (hmv.mono hsub) (hS.at fun o e => hmv.heap S o hSw e) (fun x => ?_) hlen)
    rw [hm x, ← hn, List.take_length]
  | succ k ih =>
    intro i s l hk hi hst hS hm hlen hR
    have hlt : i < n := by omega
    refine codeAny_builtin PyProof.Rows.F.entry_set_update_loop ?_
    rw [Around.under_plainId PyProof.Rows.F.plain_set_update_loop _]
    show wpAny _ A.in1 (pyNext (.ref I) >>= _) _ _ s
    refine wpAny_bind (W.item i s _ _ hlt hst fun v s' hP hst' hmv => ?_)
    obtain ⟨t, rfl⟩ := hval i v hP
    have hS' : SetX P w s'.heap S l := hS.at fun o e => hmv.heap S o hSw e
    show wpAny _ A.in1 (holding [Value.str (xs.getD i Str.empty) t] (setAdd S (.str (xs.getD i Str.empty) t)) >>= _) _ _ s'
    refine wpAny_bind (wpAny_holding ?_)
    unfold setAdd
    refine wpAny_holding ?_
    refine wpAny_bind ((PySem.strKind P w).pyHash (k := xs.getD i Str.empty) (strKind_is _ _ _ _) ?_)
    have hroom : l.length + 1 < scanBound := by omega
    refine add_any (s := { s' with toks := s'.toks + 1 }) hS' hroom fun b h' l' hsb hS2 hm2 hl2 => ?_
    have hix : i < xs.length := by omega
    have eg : xs.getD i Str.empty = xs[i] := by
      rw [List.getD_eq_getElem?_getD, List.getElem?_eq_getElem hix]
      rfl
    have hm3 : ∀ x, x ∈ l' ↔ x ∈ xs.take (i + 1) := fun x => by
      rw [hm2 x, List.take_succ, List.getElem?_eq_getElem hix, eg]
      show _ ↔ x ∈ xs.take i ++ [xs[i]]
      rw [List.mem_append, List.mem_singleton, hm x]
      exact Or.comm
    refine wpAny_pure ⟨plainId_quiet PyProof.Rows.F.plain_set_update_loop _, ih (i + 1) _ l' (by omega) hlt (W.frame _ s' _ _ hst' (Nat.le_succ _) fun b hb o e => ?_) hS2 hm3 (by omega) fun s'' l'' hmv'' hS'' hm'' hl'' => ?_⟩
    · rw [hsb.2 b (fun h : b = S => hSf (by rw [← h]; exact hb))]
      exact e
    · refine hR s'' l'' (Moved.trans W.gtrans ((hmv.mono hsub).then_heap (Nat.le_succ _) fun b o hb e => ?_) hmv'') hS'' hm'' hl''
      rw [hsb.2 b (fun h : b = S => hb (by rw [h]; exact List.mem_cons_self))]
      exact e
end

/-! ### set(xs): the call -/
section
variable {P : Program} {w : World} {A : Around} {E : Value → Shared → Prop} {s : Shared}
abbrev emptyObj (w : World) : Obj := { cls := .type "set", dict := none, data := .set #[] 0 (.fresh 0 0 (!w.params.followText "set-order")) }
theorem str_at {us : List Value} {xs : List Str} (h : StrsAre us xs) : ∀ (i : Nat) (v : Value), us[i]? = some v → ∃ t, v = .str (xs.getD i Str.empty) t := by
  induction h with
  | nil =>
    intro i v e
    cases e
  | cons y t h ih =>
    intro i v e
    cases i with
    | zero =>
      have q : Value.str y t = v := Option.some.inj e
      exact ⟨t, q.symm⟩
    | succ i => exact ih i v e

set_option maxRecDepth 100000 in
set_option maxHeartbeats 4000000 in
/-- set(xs), xs a list or a tuple of texts -/
theorem call_set {l : Addr} {items : Array Value} {xs : List Str} {Q : Value → Shared → Prop} (hh : A.handled = none) (hl : s.heap.IsList l items ∨ s.heap.IsTuple l items) (hi : StrsAre items.toList xs) (hb : xs.length + 1 < scanBound)
    (h : ∀ (h' : Heap) (tk : Nat) (ys : List Str), SetX P w h' s.heap.objs.size ys → (∀ x, x ∈ ys ↔ x ∈ xs) → ys.length ≤ xs.length → (∀ b o, s.heap.get? b = some o → h'.get? b = some o) → Q (.ref s.heap.objs.size) { s with heap := h', toks := tk }) :
    wpAny (model P w) A (call (.type "set") [.ref l]) Q E s := by
  have hisz : xs.length = items.size := by rw [← StrsAre.len_eq hi, Array.length_toList]
  have hval : ∀ (i : Nat) (v : Value), items[i]? = some v → ∃ t, v = .str (xs.getD i Str.empty) t := fun i v hv => str_at hi i v (by rw [Array.getElem?_toList]; exact hv)
  obtain ⟨c, tl, hmro⟩ := PySem.F.called_set.mro
  have hmade := PySem.F.called_set.made
  have hsub := PySem.F.called_set.sub
  refine wpAny_call (codeAny_of_tree ?_)
  show wpAny _ _ (callAny (.type "set") _) _ _ _
  refine wpAny_pure ⟨Code.quiet_builtin _ (by decide +kernel), codeAny_builtin PySem.F.entry_type_call ?_⟩
  rw [Around.under_plain (weight_type_call_type "set" [.ref l] []) rfl]
  have h1 := PySem.F.called_set.notType
  have h2 := PySem.F.called_set.canCreate
  have hct := PySem.F.typeCall_set_1 (.ref l)
  repeat (any_goals (first | assumption | wp_step))
  refine codeAny_mono (code_set_led1 (.ref l) (E := E) (Q₁ := fun obj s₁ => obj = .ref s.heap.objs.size ∧ s₁ = { s with heap := s.heap.push (emptyObj w) }) ⟨rfl, rfl⟩) fun r s₁ hr => ?_
  cases r with
  | error e => exact hr
  | ok fl =>
    cases fl with
    | ret obj =>
      obtain ⟨rfl, rfl⟩ := hr
      have hS : (s.heap.push (emptyObj w)).get? s.heap.objs.size = some (emptyObj w) := Heap.get?_push_size _ rfl
      have hT : Shared.TypeIs { s with heap := s.heap.push (emptyObj w) } (.ref s.heap.objs.size) "set" := ⟨_, hS, rfl⟩
      have hli := PySem.F.called_set.init.lookup
      have hbi := PySem.F.called_set.init.bind (.ref s.heap.objs.size)
      repeat (any_goals (first | assumption | wp_step))
      refine codeAny_mono (codeAny_call_builtin (R := wants (fun r s₂ => r = .none ∧ ∃ h' tk ys, s₂ = { s with heap := h', toks := tk } ∧ SetX P w h' s.heap.objs.size ys ∧ (∀ x, x ∈ ys ↔ x ∈ xs) ∧ ys.length ≤ xs.length ∧
          (∀ b o, s.heap.get? b = some o → h'.get? b = some o)) E) PySem.F.called_set.init.plain PySem.F.entry_set_init (check_set_init_1 hT ?_)) fun r₂ s₂ hr₂ => ?_
      · have hh3 : A.in1.in1.in1.handled = none := by simp [hh]
        have hz1 : (s.heap.push (emptyObj w)).objs.size = s.heap.objs.size + 1 := Heap.size_push ..
        rcases hl with hl | hl
        · obtain ⟨ol, hol, hcl, nl, hdl⟩ := hl
          obtain ⟨ocls, odict, odata, oslots⟩ := ol
          simp only at hcl hdl
          subst hcl; subst hdl
          have hol' : (s.heap.push (emptyObj w)).get? l = some { cls := .type "list", dict := odict, data := .seq items nl, slots := oslots } := Heap.get?_push_of_some _ hol
          have hsls := PySem.F.sub_list_set
          have hslf := PySem.F.sub_list_frozenset
          have hne : (Value.type "list" == Value.type "dict") = false := by decide
          have hl1 : (s.heap.push (emptyObj w)).IsList l items := ⟨_, hol', rfl, nl, rfl⟩
          unfold Builtin.«set.__init__» noKeywords Builtin.Frozenset.updateFrom
          generalize hPI : pyIter = PI
          wp_walk
          subst hPI
          refine wpAny_pyIter_list hl1 ?_
          refine wpAny_bind (wpAny_runValue ?_)
          have hlS : l < s.heap.objs.size := Heap.lt_size hol
          have hneI : l ≠ (s.heap.push (emptyObj w)).objs.size := by
            rw [hz1]
            exact Nat.ne_of_lt (Nat.lt_succ_of_lt hlS)
          have hSf : s.heap.objs.size ∉ [(s.heap.push (emptyObj w)).objs.size, l] := by
            simp only [List.mem_cons, List.mem_singleton, List.not_mem_nil, or_false, not_or]
            rw [hz1]
            exact ⟨Nat.ne_of_lt (Nat.lt_succ_self _), Nat.ne_of_gt hlS⟩
          have hget : ((s.heap.push (emptyObj w)).push { cls := .type "list_iterator", data := .fields #[.ref l, .int 0 0] }).get? s.heap.objs.size = some (emptyObj w) := Heap.get?_push_of_some _ hS
          refine fill_loop ((Walks.list hh3 _ l hneI items).toS) s.heap.objs.size hSf xs hisz hval (by omega) (items.size - 0) 0 _ [] (by omega) (Nat.zero_le _)
            ⟨⟨_, Heap.get?_push_size _ rfl, rfl, rfl⟩, (hl1.push _)⟩ (setX_fresh hget) (fun x => Iff.rfl) (Nat.le_refl _) ?hR
          case hR =>
            intro s' ys hm hS' hmm hlen
            obtain ⟨h', g', d', tk', os'⟩ := s'
            have eg : g' = s.gens := hm.gens
            have ed : d' = s.drawn := hm.drawn
            have eo : os' = s.os := hm.os
            subst eg; subst ed; subst eo
            show wpAny _ _ _ _ _ _
            refine wpAny_pure ?_
            show wpAny _ _ (ret Value.none) _ _ _
            refine wpAny_pure ⟨rfl, h', tk', ys, rfl, hS', hmm, by omega, fun b o e => ?_⟩
            have hb0 : b < s.heap.objs.size := Heap.lt_size e
            refine hm.heap b o ?_ (Heap.get?_push_of_some _ (Heap.get?_push_of_some _ e))
            simp only [List.mem_cons, List.mem_singleton, List.not_mem_nil, or_false, not_or]
            rw [hz1]
            exact ⟨Nat.ne_of_lt hb0, Nat.ne_of_lt (Nat.lt_succ_of_lt hb0)⟩
        · obtain ⟨ol, hol, hcl, nl, hdl⟩ := hl
          obtain ⟨ocls, odict, odata, oslots⟩ := ol
          simp only at hcl hdl
          subst hcl; subst hdl
          have hol' : (s.heap.push (emptyObj w)).get? l = some { cls := .type "tuple", dict := odict, data := .seq items nl, slots := oslots } := Heap.get?_push_of_some _ hol
          have hsls := PySem.F.sub_tuple_set
          have hslf := PySem.F.sub_tuple_frozenset
          have hne : (Value.type "tuple" == Value.type "dict") = false := by decide
          have hl1 : (s.heap.push (emptyObj w)).IsTuple l items := ⟨_, hol', rfl, nl, rfl⟩
          unfold Builtin.«set.__init__» noKeywords Builtin.Frozenset.updateFrom
          generalize hPI : pyIter = PI
          wp_walk
          subst hPI
          refine wpAny_pyIter_tuple hl1 ?_
          refine wpAny_bind (wpAny_runValue ?_)
          have hlS : l < s.heap.objs.size := Heap.lt_size hol
          have hneI : l ≠ (s.heap.push (emptyObj w)).objs.size := by
            rw [hz1]
            exact Nat.ne_of_lt (Nat.lt_succ_of_lt hlS)
          have hSf : s.heap.objs.size ∉ [(s.heap.push (emptyObj w)).objs.size, l] := by
            simp only [List.mem_cons, List.mem_singleton, List.not_mem_nil, or_false, not_or]
            rw [hz1]
            exact ⟨Nat.ne_of_lt (Nat.lt_succ_self _), Nat.ne_of_gt hlS⟩
          have hget : ((s.heap.push (emptyObj w)).push { cls := .type "tuple_iterator", data := .fields #[.ref l, .int 0 0] }).get? s.heap.objs.size = some (emptyObj w) := Heap.get?_push_of_some _ hS
          refine fill_loop ((Walks.tuple hh3 _ l hneI items).toS) s.heap.objs.size hSf xs hisz hval (by omega) (items.size - 0) 0 _ [] (by omega) (Nat.zero_le _)
            ⟨⟨_, Heap.get?_push_size _ rfl, rfl, rfl⟩, (hl1.push _)⟩ (setX_fresh hget) (fun x => Iff.rfl) (Nat.le_refl _) ?hR
          case hR =>
            intro s' ys hm hS' hmm hlen
            obtain ⟨h', g', d', tk', os'⟩ := s'
            have eg : g' = s.gens := hm.gens
            have ed : d' = s.drawn := hm.drawn
            have eo : os' = s.os := hm.os
            subst eg; subst ed; subst eo
            show wpAny _ _ _ _ _ _
            refine wpAny_pure ?_
            show wpAny _ _ (ret Value.none) _ _ _
            refine wpAny_pure ⟨rfl, h', tk', ys, rfl, hS', hmm, by omega, fun b o e => ?_⟩
            have hb0 : b < s.heap.objs.size := Heap.lt_size e
            refine hm.heap b o ?_ (Heap.get?_push_of_some _ (Heap.get?_push_of_some _ e))
            simp only [List.mem_cons, List.mem_singleton, List.not_mem_nil, or_false, not_or]
            rw [hz1]
            exact ⟨Nat.ne_of_lt hb0, Nat.ne_of_lt (Nat.lt_succ_of_lt hb0)⟩
      · cases r₂ with
        | error e => exact hr₂
        | ok fl₂ =>
          cases fl₂ with
          | ret r =>
            obtain ⟨rfl, h', tk, ys, rfl, hS', hmm, hlen, hk'⟩ := hr₂
            repeat (any_goals (first | assumption | wp_step))
            exact h _ _ _ hS' hmm hlen hk'
          | _ => exact hr₂.elim
    | _ => exact hr.elim

/-! ### sorted(set) -/
theorem strs_of : ∀ (l : List Value), (∀ v ∈ l, ∃ k tk, v = Value.str k tk) → StrsAre l (l.map strOf)
  | [], _ => .nil
  | v :: l, h => by
    obtain ⟨k, tk, rfl⟩ := h v List.mem_cons_self
    exact .cons k tk (strs_of l fun u hu => h u (List.mem_cons_of_mem _ hu))
theorem sorted_setX {a : Addr} {l : List Str} {Q : Value → Shared → Prop} (R : SetX P w s.heap a l) (hh : A.handled = none) (hlen : l.length + 1 < scanBound)
    (hQ : ∀ s' p (out : Array Value) (c : Nat) (ys : List Str), (∀ b o, s.heap.get? b = some o → s'.heap.get? b = some o) → s'.gens = s.gens → s'.os = s.os → s.heap.objs.size ≤ p →
      s'.heap.get? p = some (seqObj "list" out c) → StrsAre out.toList ys → sortedS ys = true → ys.Perm l → Q (.ref p) s') :
    wpAny (model P w) A (call (.builtin "sorted") [.ref a]) Q E s := by
  obtain ⟨⟨es, ep, t⟩, ho, F, nd, r, hl⟩ := R
  have hf : t.fits es.size = true := F.fit
  have hsz : es.size = l.length := F.sz
  refine Calls.call_function_entry kind_sorted plain_sorted entry_sorted (args_sorted1 _) ?_
  unfold Builtin.«sorted»
  refine wpAny_bind (m := checkCount "sorted" 1 1 _) (wpAny_pure ?_)
  refine wpAny_bind (collect_set (A := A.in1) hh ⟨_, ho, rfl, rfl⟩ hf (by show es.size < scanBound; rw [hsz]; omega) r hl fun s1 vs k1 hz g1 o1 pm => ?_)
  have hvl : vs.length = l.length := by rw [pm.length_eq, List.length_map, Array.length_toList]; exact hsz
  have hst : ∀ v ∈ vs, ∃ k tk, v = Value.str k tk ∧ k ∈ l := fun v hv => by
    obtain ⟨e, he, q⟩ := List.mem_map.mp (pm.mem_iff.mp hv)
    obtain ⟨⟨k, h1, _⟩, _⟩ := F.el e he
    obtain ⟨tk, h2⟩ := Value.isStrOf_shape h1
    exact ⟨k, tk, by rw [← q]; exact h2, (F.mem k).mpr ⟨e, he, h1⟩⟩
  have hI : StrsAre vs (vs.map strOf) := strs_of vs fun v hv => let ⟨k, tk, e, _⟩ := hst v hv; ⟨k, tk, e⟩
  have pk : (vs.map strOf).Perm l := by
    refine (perm_of_sub l (vs.map strOf) nd (fun x hx => ?_) (by rw [List.length_map, hvl])).symm
    obtain ⟨e, he, h1⟩ := (F.mem x).mp hx
    obtain ⟨tk, h2⟩ := Value.isStrOf_shape h1
    exact List.mem_map.mpr ⟨e.2, pm.mem_iff.mpr (List.mem_map.mpr ⟨e, he, rfl⟩), by rw [h2]; rfl⟩
  have hline : vs.length ≤ sizeLine := by
    rw [hvl, sizeLine_eq]
    have z : scanBound = 4096 := rfl
    omega
  refine wpAny_bind (wpAny_newList ?_ hline)
  have hoL : (s1.heap.push (seqObj "list" vs.toArray 0)).get? s1.heap.objs.size = some (seqObj "list" vs.toArray 0) := Heap.get?_push_size _ rfl
  refine wpAny_bind (wpAny_holding (wpAny_call_entry slot_list_sort ⟨_, hoL, rfl⟩ entry_list_sort (list_sort_treeKAny strKind_oneLt hoL hI.keysOf (fun v₁ v₂ rest e => keyKind_strs (by rw [← e]; exact hI)) hline fun st' hp hs => ⟨_, rfl, ?_⟩) (args_list_sort _)))
  obtain ⟨ys, a1, a2, a3⟩ := sorted_out_str hI hp hs
  obtain ⟨c, hc⟩ := sortedHeap_at (vs := vs) (out := (arrOf st').map (·.2)) hoL
  refine wpAny_pure ⟨_, rfl, hQ _ s1.heap.objs.size _ c ys (fun b u e => ?_) g1 o1 hz hc a1 a3 (a2.trans pk)⟩
  have q := k1 b u e
  have hlt := Heap.lt_size q
  show (sortedHeap (s1.heap.push (seqObj "list" vs.toArray 0)) s1.heap.objs.size vs _).get? b = some u
  rw [sortedHeap_old (Nat.ne_of_lt hlt) (by rw [size_push']; exact Nat.lt_succ_of_lt hlt)]
  exact Heap.get?_push_of_some _ q
end

/-! ### over the layer -/
def SetV (P : Program) (w : World) (a : Addr) (l : List Str) : HO := .ext fun h => SetX P w h a l
section
variable {X : Cx}
theorem setV_new {P : Program} {w : World} {H : Hp} {h : Heap} {a : Addr} {l : List Str} (R : SetX P w h a l) : ObjOk P w H h a (SetV P w a l) := by
  have ⟨o, ho, _⟩ := R
  exact ⟨R, ⟨_, ho⟩, fun h1 h2 p k => SetX.at p k⟩
/-- set(xs), xs a list or a tuple of texts -/
def rSetX (K : PySem.W.Frag) (P : Program) (w : World) : List V → Hp → VK → Prop := fun vs H Q => ∃ (a : Addr) (xs : List Str), vs = [V.ref a] ∧ (SqL K H a (xs.map V.str) ∨ SqT K H a (xs.map V.str)) ∧ xs.length < 4000 ∧
  ∀ p ys, H p = none → (∀ x, x ∈ ys ↔ x ∈ xs) → ys.Nodup → ys.length ≤ xs.length → Q (.ref p) (upd H p (SetV P w p ys))
theorem cr_setX (hc : X.calm = true) : CallR X (.type "set") (rSetX X.K X.prog X.w) := by
  intro pins s σ H vs us Q I r h
  obtain ⟨a, xs, rfl, hs, hlen, q⟩ := h
  rw [Vals.ref1 r]
  have hn : H s.heap.objs.size = none := I.hok.fresh (Nat.le_refl _)
  have hz : xs.length + 1 < scanBound := by
    have z : scanBound = 4096 := rfl
    omega
  obtain ⟨its, rv, pl⟩ : ∃ its : List Value, Vals (xs.map V.str) its ∧ (s.heap.IsList a its.toArray ∨ s.heap.IsTuple a its.toArray) := by
    rcases hs with hs | hs
    · obtain ⟨its, rv, pl, _⟩ := I.list hs
      exact ⟨its, rv, .inl pl.isList⟩
    · obtain ⟨its, rv, pl, _⟩ := I.tuple hs
      exact ⟨its, rv, .inr pl⟩
  refine call_set (P := X.prog) (w := X.w) (I.ok.hd hc) pl (by simpa using rv.strs) hz fun h' tk ys R hm hl k => ?_
  have nd : ys.Nodup := by
    obtain ⟨_, _, _, z, _⟩ := R
    exact z
  exact ⟨.ref s.heap.objs.size, upd H s.heap.objs.size (SetV X.prog X.w s.heap.objs.size ys), I.laid (t' := tk) k (Nat.le_refl _) (setV_new R), rfl, q _ ys hn hm nd hl⟩
/-- sorted(a set of texts) -/
def rSortX (P : Program) (w : World) : List V → Hp → VK → Prop := fun vs H Q => ∃ (a : Addr) (l : List Str), vs = [V.ref a] ∧ H a = some (SetV P w a l) ∧ l.length < 4000 ∧
  ∀ ys p, ys.Perm l → sortedS ys = true → H p = none → Q (.ref p) (upd H p (.lst (ys.map V.str)))
theorem cr_sortX (hc : X.calm = true) : CallR X (.builtin "sorted") (rSortX X.prog X.w) := by
  intro pins s σ H vs us Q I r h
  obtain ⟨a, l, rfl, ha, hlen, q⟩ := h
  have R : SetX X.prog X.w s.heap a l := (I.hok a _ ha).1
  rw [Vals.ref1 r]
  have hz : l.length + 1 < scanBound := by
    have z : scanBound = 4096 := rfl
    omega
  refine sorted_setX R (I.ok.hd hc) hz fun s' p out c ys k g o hp hg hi hs pm => ?_
  have hl2 : (ys.map V.str).length ≤ sizeLine := by
    rw [List.length_map, pm.length_eq, sizeLine_eq]
    omega
  have hn : H p = none := I.hok.fresh hp
  have J : Inv X pins σ (upd H p (.lst (ys.map V.str))) { s with heap := s'.heap, gens := s'.gens, drawn := s'.drawn, toks := s'.toks } :=
    I.call (ch := []) (Un.laid k hp hn) (I.hok.laid k hp ⟨hl2, out.toList, c, vals_of_strs hi, hg⟩) (by rw [g]; exact I.bare) (fun _ z => nomatch z)
  have e : s' = { s with heap := s'.heap, gens := s'.gens, drawn := s'.drawn, toks := s'.toks } := by
    cases s'
    cases s
    cases o
    rfl
  rw [e]
  exact ⟨.ref p, _, J, rfl, q ys p pm hs hn⟩
end
end Sx
/-! Calls of the module's own defs by their promises, walks over a list or a tuple, data that stays. -/
namespace Bx
open PySem PySem.Spec PyProof.Rows L2 TL

/-- the module's name x holds a def that keeps sp, by at most level k -/
structure Cal (P : Program) (w : World) (K : PySem.W.Frag) (mg : Str → Option Value) (base : Heap) (x : Str) (k : Nat) (ps : List Str) (sp : Sp) : Prop where
  ex : ∃ (f : Addr) (fd : FuncData), FnOk P w K mg base CX0 k f fd ps sp ∧ mg x = some (.ref f) ∧ PySem.W.keepIn K (.ref f) = true ∧ Binds K fd ps []
/-- the same of a def with a star parameter alone -/
structure CalR (P : Program) (w : World) (K : PySem.W.Frag) (mg : Str → Option Value) (base : Heap) (x : Str) (k : Nat) (sp : Sp) : Prop where
  ex : ∃ f : Addr, FnR P w K mg base CX0 k f sp ∧ mg x = some (.ref f) ∧ PySem.W.keepIn K (.ref f) = true
section
variable {X : Cx} {x : Str} {k : Nat} {ps : List Str} {sp : Sp} {e : Expr} {es : List Expr} {t : TA} {p pos : Pos}
def tCal (sp : Sp) (t : TA) : TE := fun σ H Q => t σ H fun vs H1 => sp vs H1 Q E0
theorem pe_cal (c : Cal X.prog X.w X.K X.mg X.base x k ps sp) (hr : Room k X.A) (ha : PA X (e :: es) t) (hg : Gl X x := by rfl) (hdb : (x == ("__debug__" : Str)) = false := by decide)
    (he : starEach (e :: es) X.env = (false, eval e X.env) :: starEach es X.env := by rfl) (hpl : (backTo pos (starEach es X.env)).any (·.1) = false := by rfl) : PE X (.Call (.Name x p) (e :: es) [] pos) (tCal sp t) := by
  obtain ⟨f, fd, ok, g, kp, b⟩ := c.ex
  have z := pe_call (E := E0) ok hr hg g kp b .nil pass0 ha hdb he hpl (p := p)
  refine ⟨fun pins s σ H Q I h => z.run pins s σ H Q I ?_⟩
  unfold tCall
  simp only [List.append_nil]
  exact h
theorem pe_cal0 (c : Cal X.prog X.w X.K X.mg X.base x k ps sp) (hr : Room k X.A) (hg : Gl X x := by rfl) (hdb : (x == ("__debug__" : Str)) = false := by decide) : PE X (.Call (.Name x p) [] [] pos) (tCal sp tNil) := by
  obtain ⟨f, fd, ok, g, kp, b⟩ := c.ex
  have z := pe_call0 (E := E0) (pos := pos) ok hr hg g kp b .nil pass0 hdb (p := p)
  refine ⟨fun pins s σ H Q I h => z.run pins s σ H Q I ?_⟩
  exact h
theorem pe_calR (c : CalR X.prog X.w X.K X.mg X.base x k sp) (hr : Room k X.A) (ha : PA X (e :: es) t) (hg : Gl X x := by rfl) (hdb : (x == ("__debug__" : Str)) = false := by decide)
    (he : starEach (e :: es) X.env = (false, eval e X.env) :: starEach es X.env := by rfl) (hpl : (backTo pos (starEach es X.env)).any (·.1) = false := by rfl) : PE X (.Call (.Name x p) (e :: es) [] pos) (tCal sp t) := by
  obtain ⟨f, ok, g, kp⟩ := c.ex
  refine ⟨fun pins s σ H Q I h => ?_⟩
  refine wpAny_Call_Name_kw (ld_glob I hg g ?_ hdb)
  refine PySem.W.callWith_K (h₀ := X.base) I.ok.mod.kin kp (thn (ha.run pos pins s σ H _ I h) fun us s1 ⟨vs, H1, I1, r, q⟩ => ⟨I1.kIn, ?_⟩) he hpl
  exact wpAny_call (run_fnR ok hr pass0 I1 r q)
theorem pe_calR0 (c : CalR X.prog X.w X.K X.mg X.base x k sp) (hr : Room k X.A) (hg : Gl X x := by rfl) (hdb : (x == ("__debug__" : Str)) = false := by decide) : PE X (.Call (.Name x p) [] [] pos) (tCal sp tNil) := by
  obtain ⟨f, ok, g, kp⟩ := c.ex
  refine ⟨fun pins s σ H Q I h => ?_⟩
  refine wpAny_Call_Name_kw (ld_glob I hg g ?_ hdb)
  exact PySem.W.callWith_K0 I.kIn kp (wpAny_call (run_fnR ok hr pass0 I .nil h))

/-- x(*y) -/
theorem pe_calS {te : TE} {sp_ : Pos} (c : CalR X.prog X.w X.K X.mg X.base x k sp) (hr : Room k X.A) (he : PE X e te) (hg : Gl X x := by rfl) (hdb : (x == ("__debug__" : Str)) = false := by decide) (hst : starEach [.Starred e sp_] X.env = [(true, eval e X.env)] := by rfl) :
    PE X (.Call (.Name x p) [.Starred e sp_] [] pos) (fun σ H Q => te σ H fun y H1 => ∃ a xs, y = V.ref a ∧ (SqT X.K H1 a xs ∨ SqL X.K H1 a xs) ∧ sp xs H1 Q E0) := by
  obtain ⟨f, ok, g, kp⟩ := c.ex
  exact StX.pe_callS1 ok hr kp hg g pass0 he hdb hst

/-- a walk over a list or a tuple -/
def SeqCase (K : PySem.W.Frag) (a : Addr) (H : Hp) (R : It → Hp → Prop) : Prop := ((∃ xs, SqL K H a xs) ∧ R (Itl K a) H) ∨ ((∃ xs, SqT K H a xs) ∧ R (Itt K a) H)
def iSeq (K : PySem.W.Frag) (tl : TE) : TI := fun σ H R => tl σ H fun x H1 => ∃ a, x = .ref a ∧ SeqCase K a H1 R
theorem pi_seq {tg l : Expr} {tl : TE} (hl : PE X l tl) : PI X tg l (iSeq X.K tl) := by
  refine ⟨fun pins s σ H R I h => ?_⟩
  refine thn (hl.run pins s σ H _ I h) fun v s1 ⟨x, H1, I1, r1, q1⟩ => ?_
  obtain ⟨a, e, q1⟩ := q1
  subst e
  cases r1
  rcases q1 with ⟨⟨xs, hq⟩, q⟩ | ⟨⟨xs, hq⟩, q⟩
  · obtain ⟨its, rv, p, hz⟩ := I1.list hq
    refine wpAny_pyIter_list p.isList ?_
    exact pi_one (tk := s1.toks) I1 _ (turn_list a _) ⟨_, Heap.get?_push_size _ rfl, rfl, rfl⟩ q
  · obtain ⟨its, rv, p, hz⟩ := I1.tuple hq
    refine wpAny_pyIter_tuple (show s1.heap.IsTuple a its.toArray from p) ?_
    exact pi_one (tk := s1.toks) I1 _ (turn_tuple a _) ⟨_, Heap.get?_push_size _ rfl, rfl, rfl⟩ q
end

/-! ### rules with the written part named (within a block) -/
section
variable {X : Cx} {K : PySem.W.Frag}
theorem ix_listK (h : X.K = K) : IxR X (rIxL K) := h ▸ ix_list
theorem ix_tupK (h : X.K = K) : IxR X (rIxT K) := h ▸ ix_tup
theorem op_in_seqK (h : X.K = K) : OpR X (compareOp .In) (rIn K false) := h ▸ op_in_seq
theorem call_list_ofK (h : X.K = K) : CallR X (.type "list") (fun xs H Q => ∃ p ys, xs = [.ref p] ∧ (SqL K H p ys ∨ SqT K H p ys) ∧ ∀ l, H l = none → Q (.ref l) (upd H l (.lst ys))) := by
  subst h
  exact call_list_of
theorem call_tuple_ofK (h : X.K = K) : CallR X (.type "tuple") (fun xs H Q => ∃ p ys, xs = [.ref p] ∧ ((SqL K H p ys ∧ ∀ l, H l = none → Q (.ref l) (upd H l (.tup ys))) ∨ (SqT K H p ys ∧ Q (.ref p) H))) := by
  subst h
  exact call_tuple_of
theorem call_len_seqK (h : X.K = K) : CallR X (.builtin "len") (fun xs H Q => ∃ p ys, xs = [.ref p] ∧ (SqL K H p ys ∨ SqT K H p ys) ∧ Q (.int ys.length) H) := by
  subst h
  exact call_len_seq
theorem cr_allK (h : X.K = K) (hc : X.calm = true) : CallR X (.builtin "all") (rAll K) := by
  subst h
  exact cr_all hc
theorem pg_tupK {es : List Expr} {k : Nat} {t : TGs} {n : Nat} {pos : Pos} (h : X.K = K) (hc : X.calm = true) (hs : PGs X es t)
    (hn : (assignEach es X.env).length = n := by rfl) (hst : (assignEach es X.env).findIdx? (·.1) = none := by rfl) : PG X (.Tuple es k pos) (gTup K n t) := by
  subst h
  exact pg_tup hc hs hn hst
theorem op_notIn_seqK (h : X.K = K) : OpR X (compareOp .NotIn) (rIn K true) := h ▸ op_notIn_seq
end

/-! ### heaps -/
theorem same_new {H : Hp} {p : Addr} {o : HO} (h : H p = none) : Same H (upd H p o) := fun b x e => by
  rw [upd_ne (ne_of_none e h)]
  exact e
theorem same_at {H H2 : Hp} {p : Addr} {o : HO} (h : H p = none) (s : Same H H2) : Same H (upd H2 p o) := fun b x e => by
  rw [upd_ne (ne_of_none e h)]
  exact s b x e
theorem Same.tup {K : PySem.W.Frag} {H H' : Hp} {a : Addr} {xs : List V} (e : Same H H') (h : SqT K H a xs) : SqT K H' a xs := by
  rcases h with (h | ⟨o, h⟩) | h
  · exact .inl (.inl (e _ _ h))
  · exact .inl (.inr ⟨o, e _ _ h⟩)
  · exact .inr h
theorem sq {K : PySem.W.Frag} {H : Hp} {a : Addr} {xs : List V} (h : H a = some (.lst xs)) : SqL K H a xs := Or.inl (Or.inl h)
theorem sqt {K : PySem.W.Frag} {H : Hp} {a : Addr} {xs : List V} (h : H a = some (.tup xs)) : SqT K H a xs := Or.inl (Or.inl h)
/-- all that was tracked but a is as it was -/
def SameBut (a : Addr) (H H' : Hp) : Prop := ∀ b o, b ≠ a → H b = some o → H' b = some o
theorem SameBut.refl (a : Addr) (H : Hp) : SameBut a H H := fun _ _ _ h => h
theorem SameBut.trans {a : Addr} {H H1 H2 : Hp} (x : SameBut a H H1) (y : SameBut a H1 H2) : SameBut a H H2 := fun b o n h => y b o n (x b o n h)
theorem Same.but {a : Addr} {H H' : Hp} (x : Same H H') : SameBut a H H' := fun b o _ h => x b o h
theorem SameBut.upd {a : Addr} {H : Hp} {o : HO} : SameBut a H (upd H a o) := fun b x n h => by
  rw [upd_ne n]
  exact h
/-- new objects do not disturb: what was tracked at H, where a was not -/
theorem SameBut.same {a : Addr} {H H1 H2 : Hp} (x : Same H H1) (n : H a = none) (y : SameBut a H1 H2) : Same H H2 := fun b o h => y b o (ne_of_none h n) (x b o h)
theorem sz {n : Nat} (h : n ≤ 100000) : n ≤ sizeLine := Nat.le_trans h (by decide)
theorem szl {n : Nat} (h : n < 100000) : n < sizeLine := Nat.lt_of_lt_of_le h (by decide)
/-- the source of draws at a -/
def Src (H : Hp) (a : Addr) : Prop := ∃ n c : Int, H a = some (.lst [.int n, .int c])

/-! ### data -/
mutual
theorem dp_same {K : PySem.W.Frag} {H H' : Hp} (e : Same H H') : ∀ {v : V} {d : PyData}, Dp K H v d → Dp K H' v d
  | _, _, .non => .non
  | _, _, .bl b => .bl b
  | _, _, .int i => .int i
  | _, _, .str x => .str x
  | _, _, .lst h a => .lst (e.seq h) (dpAll_same e a)
  | _, _, .tup h a => .tup (Bx.Same.tup e h) (dpAll_same e a)
theorem dpAll_same {K : PySem.W.Frag} {H H' : Hp} (e : Same H H') : ∀ {vs : List V} {ds : List PyData}, DpAll K H vs ds → DpAll K H' vs ds
  | _, _, .nil => .nil
  | _, _, .cons h a => .cons (dp_same e h) (dpAll_same e a)
end
theorem dp_strs {K : PySem.W.Frag} {H : Hp} : ∀ ys : List Str, DpAll K H (ys.map V.str) (ys.map PyData.str)
  | [] => .nil
  | y :: ys => .cons (.str y) (dp_strs ys)
theorem dp_ints {K : PySem.W.Frag} {H : Hp} : ∀ ys : List Int, DpAll K H (ys.map V.int) (ys.map PyData.int)
  | [] => .nil
  | y :: ys => .cons (.int y) (dp_ints ys)
theorem dp_map {K : PySem.W.Frag} {H : Hp} {α : Type} {f : α → V} {g : α → PyData} : ∀ {l : List α}, (∀ x ∈ l, Dp K H (f x) (g x)) → DpAll K H (l.map f) (l.map g)
  | [], _ => .nil
  | x :: l, h => .cons (h x List.mem_cons_self) (dp_map fun y hy => h y (List.mem_cons_of_mem _ hy))

/-! ### walks with any body -/
theorem walk_any {J : It} {n : Nat} {G : Hp → Prop} {Y : Nat → Hp → V → Hp → Prop} (w : Walk J n G Y) {Z : Hp → Prop} {B : (Hp → Prop) → V → Hp → Prop} {H0 : Hp} (Pv : Nat → Hp → Prop) (h0 : Pv 0 H0) (hG : ∀ i H, i ≤ n → Pv i H → G H)
    (hs : ∀ i x H H', i < n → Pv i H → Y i H x H' → B (Pv (i + 1)) x H') (hd : ∀ H, Pv n H → Z H) :
    ∃ W : Nat → Nat → Hp → Prop, (∃ m, W 0 m H0) ∧ ∀ i m H, W i m H → (J.stop i H ∧ Z H) ∨ (J.go i H ∧ ∃ Nx : Hp → Prop, (∀ H', Nx H' → ∃ m', m' < m ∧ W (i + 1) m' H') ∧ ∀ x H', J.yld i H x H' → B Nx x H') := by
  refine ⟨fun i m H => m = n - i ∧ i ≤ n ∧ Pv i H, ⟨n, by simp, Nat.zero_le _, h0⟩, ?_⟩
  rintro i m H ⟨rfl, hi, p⟩
  have q := hG i H hi p
  by_cases hlt : i < n
  · exact .inr ⟨w.goes i H hlt q, Pv (i + 1), fun H' p' => ⟨n - (i + 1), by omega, rfl, hlt, p'⟩, fun x H' y => hs i x H H' hlt p (w.yields i H x H' hlt q y)⟩
  · have e : i = n := by omega
    subst e
    exact .inl ⟨w.stops H q, hd H p⟩

/-! ### a def with a star parameter alone -/
theorem okStar {P : Program} {w : World} {K : PySem.W.Frag} {mg : Str → Option Value} {base : Heap} {x qual pn : Str} {st : Stmt} {f : Addr} {fd : FuncData} {N : List Str} {k : Nat} {sp : Sp} (F : Fun K x qual st f fd) (S : FnScope N [pn] (defScope st))
    (hb : ∀ (kV doc pm : Value) (an : Option Addr) (cdv ct : Value) (rest : List Value), bindArgs (PySem.W.fnOf x qual (defArgs st) (defBody st) (defScope st) .none kV doc pm an cdv ct) ⟨rest, []⟩ = (newTuple rest >>= fun t => pure [(pn, t)]))
    (hbody : ∀ (cdv : Value) (A : Around) (outer : List Env) (s : Shared) (H : Hp) (vs : List V) (Q : VK) (E : XK), Room k (A.deeper (envOfC qual (defScope st) s.heap.objs.size f cdv)) → sp vs H Q E →
      ∃ t, PSs (cxOf CX0 P w K mg base N qual (defScope st) f cdv A outer s H E) (defBody st) t ∧ t { nx := fun _ H' => Q .non H', rt := Q } (start N vs) H) :
    FnR P w K mg base CX0 (k + 1) f (fun vs H Q E => vs.length ≤ sizeLine ∧ ∀ p, H p = none → sp [V.ref p] (upd H p (.tup vs)) Q E) := by
  obtain ⟨oc, od, kV, doc, pm, an, cdv, ct, osl, rfl, lk, hcd⟩ := F.ex
  have z := StX.fn_star (P := P) (w := w) (K := K) (mg := mg) (base := base) (CX := CX0) (ps := []) (sp := sp) lk hcd S StX.cxUp_none (fun us rest hl => by
    have e : us = [] := List.length_eq_zero_iff.mp hl
    subst e
    exact hb kV doc pm an cdv ct rest) (hbody cdv)
  exact z.imp fun vs H Q E h => ⟨[], vs, rfl, rfl, h.1, h.2⟩

/-- one parameter ahead of the star -/
theorem okStar1 {P : Program} {w : World} {K : PySem.W.Frag} {mg : Str → Option Value} {base : Heap} {x qual p1 pn : Str} {st : Stmt} {f : Addr} {fd : FuncData} {N : List Str} {k : Nat} {sp : Sp} (F : Fun K x qual st f fd) (S : FnScope N [p1, pn] (defScope st))
    (h0 : ∀ (kV doc pm : Value) (an : Option Addr) (cdv ct a : Value), bindArgs (PySem.W.fnOf x qual (defArgs st) (defBody st) (defScope st) .none kV doc pm an cdv ct) ⟨[a], []⟩ = (newTuple [] >>= fun t => pure [(p1, a), (pn, t)]))
    (h1 : ∀ (kV doc pm : Value) (an : Option Addr) (cdv ct a r : Value) (rs : List Value), bindArgs (PySem.W.fnOf x qual (defArgs st) (defBody st) (defScope st) .none kV doc pm an cdv ct) ⟨a :: r :: rs, []⟩ = (newTuple (r :: rs) >>= fun t => pure [(p1, a), (pn, t)]))
    (hbody : ∀ (cdv : Value) (A : Around) (outer : List Env) (s : Shared) (H : Hp) (vs : List V) (Q : VK) (E : XK), Room k (A.deeper (envOfC qual (defScope st) s.heap.objs.size f cdv)) → sp vs H Q E →
      ∃ t, PSs (cxOf CX0 P w K mg base N qual (defScope st) f cdv A outer s H E) (defBody st) t ∧ t { nx := fun _ H' => Q .non H', rt := Q } (start N vs) H) :
    FnR P w K mg base CX0 (k + 1) f (fun vs H Q E => ∃ v rest, vs = v :: rest ∧ rest.length ≤ sizeLine ∧ ∀ p, H p = none → sp [v, V.ref p] (upd H p (.tup rest)) Q E) := by
  obtain ⟨oc, od, kV, doc, pm, an, cdv, ct, osl, rfl, lk, hcd⟩ := F.ex
  have z := StX.fn_star (P := P) (w := w) (K := K) (mg := mg) (base := base) (CX := CX0) (ps := [p1]) (sp := sp) lk hcd S StX.cxUp_none
    (StX.bind_star1 (B := fun us => bindArgs (PySem.W.fnOf x qual (defArgs st) (defBody st) (defScope st) .none kV doc pm an cdv ct) ⟨us, []⟩) (h0 kV doc pm an cdv ct) (h1 kV doc pm an cdv ct)) (hbody cdv)
  exact z.imp fun vs H Q E ⟨v, rest, e, hl, h⟩ => ⟨[v], rest, e, rfl, hl, h⟩

/-! ### a walk over a list or a tuple, told once -/
theorem seq_case {K : PySem.W.Frag} {H : Hp} {a : Addr} {xs : List V} {R : It → Hp → Prop} (h : SqL K H a xs ∨ SqT K H a xs) (k : ∀ (J : It) (G : Hp → Prop), Walk J xs.length G (YAt xs) → (∀ H', Same H H' → G H') → R J H) : SeqCase K a H R := by
  rcases h with h | h
  · exact .inl ⟨⟨_, h⟩, k _ _ walk_list fun H' s => s.seq h⟩
  · exact .inr ⟨⟨_, h⟩, k _ _ walk_tup fun H' s => Bx.Same.tup s h⟩
theorem at_map {α : Type} {l : List α} {f : α → V} {i : Nat} {x : V} (h : (l.map f)[i]? = some x) : ∃ y, l[i]? = some y ∧ x = f y := by
  rw [List.getElem?_map] at h
  cases e : l[i]? with
  | none =>
    rw [e] at h
    cases h
  | some y =>
    rw [e] at h
    exact ⟨y, rfl, (Option.some.inj h).symm⟩

/-! ### texts in ascending order -/
theorem rising_at : ∀ (p : Str) (r : List Str), risingS p r = true → ∀ (k : Nat) (x y : Str), (p :: r)[k]? = some x → (p :: r)[k + 1]? = some y → ltCps y.cps.toList x.cps.toList = false
  | p, [], _, k, x, y, _, h2 => by
    simp at h2
  | p, q :: r, h, k, x, y, h1, h2 => by
    have h3 : (!ltCps q.cps.toList p.cps.toList && risingS q r) = true := h
    rw [Bool.and_eq_true] at h3
    cases k with
    | zero =>
      have e1 : p = x := Option.some.inj h1
      have e2 : q = y := Option.some.inj h2
      rw [← e1, ← e2]
      simpa using h3.1
    | succ k => exact rising_at q r h3.2 k x y h1 h2
theorem sorted_at {l : List Str} (h : sortedS l = true) (nd : l.Nodup) {k : Nat} {x y : Str} (h1 : l[k]? = some x) (h2 : l[k + 1]? = some y) : x.cps.toList < y.cps.toList := by
  cases l with
  | nil => cases h1
  | cons p r =>
    have a := rising_at p r h k x y h1 h2
    rw [ltCps_eq] at a
    refine Std.lt_of_le_of_ne (of_decide_eq_false a) fun e => ?_
    have e2 : x = y := ext_tl e
    obtain ⟨i1, e3⟩ := List.getElem?_eq_some_iff.mp h1
    obtain ⟨i2, e4⟩ := List.getElem?_eq_some_iff.mp h2
    have z := List.pairwise_iff_getElem.mp nd k (k + 1) i1 i2 (Nat.lt_succ_self k)
    exact z (e3.trans (e2.trans e4.symm))

/-! ### membership of texts -/
theorem inV_str (x : Str) (ys : List Str) : inV (.str x) (ys.map V.str) = decide (x ∈ ys) := by
  unfold inV
  rw [List.any_map]
  induction ys with
  | nil => rfl
  | cons y ys ih =>
    rw [List.any_cons, ih]
    show ((y == x) || _) = _
    by_cases e : y = x
    · subst e
      simp
    · have e2 : (y == x) = false := by simpa using e
      rw [e2, Bool.false_or]
      by_cases h : x ∈ ys
      · rw [decide_eq_true h, decide_eq_true (List.mem_cons_of_mem _ h)]
      · rw [decide_eq_false h, decide_eq_false (fun z => (List.mem_cons.mp z).elim (fun z => e z.symm) h)]
theorem flat_all (ys : List Str) : (ys.map V.str).all flatV = true := by
  rw [List.all_map, List.all_eq_true]
  intro y _
  rfl
theorem lay_strs : ∀ ys : List Str, (∀ y ∈ ys, PyData.strOk y = true) → PyData.canLayAll0 (ys.map PyData.str) = true ∧ PyData.depthAll (ys.map PyData.str) ≤ 1
  | [], _ => ⟨rfl, by decide⟩
  | y :: ys, h => by
    obtain ⟨a, b⟩ := lay_strs ys fun z hz => h z (List.mem_cons_of_mem _ hz)
    constructor
    · show (PyData.strOk y && PyData.canLayAll0 (ys.map PyData.str)) = true
      rw [a, h y List.mem_cons_self]
      rfl
    · show max (PyData.depth (.str y)) (PyData.depthAll (ys.map PyData.str)) ≤ 1
      exact Nat.max_le.mpr ⟨by first | exact Nat.zero_le _ | decide | exact Nat.le_refl _, b⟩
theorem lay_lists : ∀ L : List (List Str), (∀ ys ∈ L, ∀ y ∈ ys, PyData.strOk y = true) → PyData.canLayAll0 (L.map fun ys => PyData.list (ys.map PyData.str)) = true ∧ PyData.depthAll (L.map fun ys => PyData.list (ys.map PyData.str)) ≤ 2
  | [], _ => ⟨rfl, by decide⟩
  | ys :: L, h => by
    obtain ⟨a, b⟩ := lay_lists L fun z hz => h z (List.mem_cons_of_mem _ hz)
    obtain ⟨c, d⟩ := lay_strs ys (h ys List.mem_cons_self)
    constructor
    · show (PyData.canLayAll0 (ys.map PyData.str) && PyData.canLayAll0 (L.map fun ys => PyData.list (ys.map PyData.str))) = true
      rw [a, c]
      rfl
    · show max (PyData.depthAll (ys.map PyData.str) + 1) (PyData.depthAll (L.map fun ys => PyData.list (ys.map PyData.str))) ≤ 2
      exact Nat.max_le.mpr ⟨by omega, b⟩

/-! ### signs of a written text -/
theorem pick {L : Str} {r : Int} (h0 : 0 ≤ r) (h1 : r < (tl L).length) : ∃ c, atI L.cps.toList r = some c ∧ c ∈ tl L := by
  obtain ⟨n, rfl⟩ := Int.eq_ofNat_of_zero_le h0
  have hn : n < (tl L).length := by omega
  exact ⟨(tl L)[n], atI_nat (List.getElem?_eq_getElem hn), List.getElem_mem hn⟩
end Bx
/-! Data that stands in the heap, beside objects that change; rules told of data. -/
namespace Dx
open PySem PySem.Spec PyProof.Rows L2 Bx TL

/-! ### the heap without some addresses -/
def mn (H : Hp) (S : List Addr) : Hp := fun b => if b ∈ S then none else H b
theorem mn_in {H : Hp} {S : List Addr} {b : Addr} (h : b ∈ S) : mn H S b = none := if_pos h
theorem mn_out {H : Hp} {S : List Addr} {b : Addr} (h : b ∉ S) : mn H S b = H b := if_neg h
theorem mn_same {H : Hp} {S : List Addr} : Same (mn H S) H := fun b o e => by
  by_cases h : b ∈ S
  · rw [mn_in h] at e
    cases e
  · rw [mn_out h] at e
    exact e
theorem mn_nil {H : Hp} : mn H [] = H := funext fun b => mn_out (by simp)
theorem mn_sub {H : Hp} {S T : List Addr} (h : ∀ b, b ∈ S → b ∈ T) : Same (mn H T) (mn H S) := fun b o e => by
  by_cases h1 : b ∈ T
  · rw [mn_in h1] at e
    cases e
  · rw [mn_out h1] at e
    rw [mn_out fun z => h1 (h b z)]
    exact e
theorem mn_upd {H : Hp} {S : List Addr} {a : Addr} {o : HO} (h : a ∈ S) : mn (upd H a o) S = mn H S := funext fun b => by
  by_cases h1 : b ∈ S
  · rw [mn_in h1, mn_in h1]
  · rw [mn_out h1, mn_out h1, upd_ne (show b ≠ a from fun z => h1 (by rw [z]; exact h))]
theorem mn_new {H : Hp} {S : List Addr} {p : Addr} {o : HO} (h : H p = none) : Same (mn H S) (mn (upd H p o) S) := fun b u e => by
  by_cases h1 : b ∈ S
  · rw [mn_in h1] at e
    cases e
  · rw [mn_out h1] at e ⊢
    rw [upd_ne (ne_of_none e h)]
    exact e
theorem mn_but {H H' : Hp} {S : List Addr} {a : Addr} (h : a ∈ S) (s : SameBut a H H') : Same (mn H S) (mn H' S) := fun b u e => by
  by_cases h1 : b ∈ S
  · rw [mn_in h1] at e
    cases e
  · rw [mn_out h1] at e ⊢
    exact s b u (fun z => h1 (z ▸ h)) e
theorem mn_all {H H' : Hp} {S : List Addr} (s : Same H H') : Same (mn H S) (mn H' S) := fun b u e => by
  by_cases h1 : b ∈ S
  · rw [mn_in h1] at e
    cases e
  · rw [mn_out h1] at e ⊢
    exact s b u e
theorem mn_to {H H' : Hp} {S T : List Addr} (h : ∀ b, b ∈ S → b ∈ T) (s : Same (mn H S) (mn H' S)) : Same (mn H T) (mn H' T) := fun b u e => by
  by_cases h1 : b ∈ T
  · rw [mn_in h1] at e
    cases e
  · rw [mn_out h1] at e ⊢
    have z := s b u (by rw [mn_out fun z => h1 (h b z)]; exact e)
    rw [mn_out fun z => h1 (h b z)] at z
    exact z
/-- what is tracked beside S was there, or is new -/
theorem mn_at {H : Hp} {S : List Addr} {b : Addr} {o : HO} (h : b ∉ S) (e : H b = some o) : mn H S b = some o := by
  rw [mn_out h]
  exact e
theorem mn_keep {H H' : Hp} {S : List Addr} (s : Same (mn H S) (mn H' S)) {b : Addr} {o : HO} (h : b ∉ S) (e : H b = some o) : H' b = some o := mn_same _ _ (s _ _ (mn_at h e))
theorem mn_free {H H' : Hp} {S : List Addr} (s : Same (mn H S) (mn H' S)) {b : Addr} (h : b ∉ S) (e : H' b = none) : H b = none := by
  cases z : H b with
  | none => rfl
  | some o =>
    rw [mn_keep s h z] at e
    cases e

/-! ### data -/
section
variable {K : PySem.W.Frag} {H : Hp}
theorem dp_lst {v : V} {ds : List PyData} (h : Dp K H v (.list ds)) : ∃ a xs, v = .ref a ∧ SqL K H a xs ∧ DpAll K H xs ds := by
  cases h with
  | lst s a => exact ⟨_, _, rfl, s, a⟩
theorem dp_tup {v : V} {ds : List PyData} (h : Dp K H v (.tuple ds)) : ∃ a xs, v = .ref a ∧ SqT K H a xs ∧ DpAll K H xs ds := by
  cases h with
  | tup s a => exact ⟨_, _, rfl, s, a⟩
theorem dp_str {v : V} {s : Str} (h : Dp K H v (.str s)) : v = .str s := by cases h; rfl
theorem dp_int {v : V} {i : Int} (h : Dp K H v (.int i)) : v = .int i := by cases h; rfl
theorem da_len : ∀ {xs : List V} {ds : List PyData}, DpAll K H xs ds → xs.length = ds.length
  | _, _, .nil => rfl
  | _, _, .cons _ t => congrArg (· + 1) (da_len t)
theorem da_get : ∀ {xs : List V} {ds : List PyData}, DpAll K H xs ds → ∀ {i : Nat} {d : PyData}, ds[i]? = some d → ∃ v, xs[i]? = some v ∧ Dp K H v d
  | _, _, .nil, i, d, e => by cases e
  | _, _, .cons h t, 0, d, e => by
    cases e
    exact ⟨_, rfl, h⟩
  | _, _, .cons h t, i + 1, d, e => da_get t e
theorem da_at : ∀ {xs : List V} {ds : List PyData}, DpAll K H xs ds → ∀ {i : Nat} {v : V}, xs[i]? = some v → ∃ d, ds[i]? = some d ∧ Dp K H v d
  | _, _, .nil, i, d, e => by cases e
  | _, _, .cons h t, 0, d, e => by
    cases e
    exact ⟨_, rfl, h⟩
  | _, _, .cons h t, i + 1, d, e => da_at t e
theorem da_app : ∀ {xs ys : List V} {ds es : List PyData}, DpAll K H xs ds → DpAll K H ys es → DpAll K H (xs ++ ys) (ds ++ es)
  | _, _, _, _, .nil, h => h
  | _, _, _, _, .cons h t, k => .cons h (da_app t k)
theorem da_one {v : V} {d : PyData} (h : Dp K H v d) : DpAll K H [v] [d] := .cons h .nil
theorem da_strs : ∀ {xs : List V} {ns : List Str}, DpAll K H xs (ns.map PyData.str) → xs = ns.map V.str
  | [], [], _ => rfl
  | [], _ :: _, h => by cases h
  | _ :: _, [], h => by cases h
  | x :: xs, n :: ns, h => by
    cases h with
    | cons h t =>
      rw [dp_str h, da_strs t]
      rfl
theorem da_ints : ∀ {xs : List V} {ns : List Int}, DpAll K H xs (ns.map PyData.int) → xs = ns.map V.int
  | [], [], _ => rfl
  | [], _ :: _, h => by cases h
  | _ :: _, [], h => by cases h
  | x :: xs, n :: ns, h => by
    cases h with
    | cons h t =>
      rw [dp_int h, da_ints t]
      rfl
theorem da_take : ∀ {xs : List V} {ds : List PyData}, DpAll K H xs ds → ∀ n, DpAll K H (xs.take n) (ds.take n)
  | _, _, .nil, n => by
    rw [List.take_nil, List.take_nil]
    exact .nil
  | _, _, .cons h t, 0 => .nil
  | _, _, .cons h t, n + 1 => .cons h (da_take t n)
/-- the strs of a tuple of texts -/
theorem dp_names {v : V} {ns : List Str} (h : Dp K H v (.tuple (ns.map PyData.str))) : ∃ a, v = .ref a ∧ SqT K H a (ns.map V.str) := by
  obtain ⟨a, xs, rfl, s, t⟩ := dp_tup h
  rw [da_strs t] at s
  exact ⟨a, rfl, s⟩
theorem dp_namesL {v : V} {ns : List Str} (h : Dp K H v (.list (ns.map PyData.str))) : ∃ a, v = .ref a ∧ SqL K H a (ns.map V.str) := by
  obtain ⟨a, xs, rfl, s, t⟩ := dp_lst h
  rw [da_strs t] at s
  exact ⟨a, rfl, s⟩
theorem names_dp {a : Addr} {ns : List Str} (h : SqT K H a (ns.map V.str)) : Dp K H (.ref a) (.tuple (ns.map PyData.str)) := .tup h (dp_strs ns)
theorem namesL_dp {a : Addr} {ns : List Str} (h : SqL K H a (ns.map V.str)) : Dp K H (.ref a) (.list (ns.map PyData.str)) := .lst h (dp_strs ns)
end

/-! ### what may be compared: no dicts, not too deep -/
def Lay (n : Nat) (d : PyData) : Prop := d.canLay0 = true ∧ d.depth ≤ n
def Lays (n : Nat) (ds : List PyData) : Prop := PyData.canLayAll0 ds = true ∧ PyData.depthAll ds ≤ n
theorem lays_nil {n : Nat} : Lays n [] := ⟨rfl, Nat.zero_le _⟩
theorem lays_cons {n : Nat} {d : PyData} {ds : List PyData} (h : Lay n d) (t : Lays n ds) : Lays n (d :: ds) := by
  constructor
  · show (d.canLay0 && PyData.canLayAll0 ds) = true
    rw [h.1, t.1]
    rfl
  · show max d.depth (PyData.depthAll ds) ≤ n
    exact Nat.max_le.mpr ⟨h.2, t.2⟩
theorem lays_of {n : Nat} : ∀ {ds : List PyData}, (∀ d ∈ ds, Lay n d) → Lays n ds
  | [], _ => lays_nil
  | d :: ds, h => lays_cons (h d List.mem_cons_self) (lays_of fun x hx => h x (List.mem_cons_of_mem _ hx))
theorem lay_tuple {n : Nat} {ds : List PyData} (h : Lays n ds) : Lay (n + 1) (.tuple ds) := ⟨h.1, Nat.succ_le_succ h.2⟩
theorem lay_list {n : Nat} {ds : List PyData} (h : Lays n ds) : Lay (n + 1) (.list ds) := ⟨h.1, Nat.succ_le_succ h.2⟩
theorem lay_int {n : Nat} {i : Int} : Lay n (.int i) := ⟨rfl, Nat.zero_le _⟩
theorem lay_str {n : Nat} {s : Str} (h : PyData.strOk s = true) : Lay n (.str s) := ⟨h, Nat.zero_le _⟩
theorem lay_up {m n : Nat} {d : PyData} (h : Lay m d) (k : m ≤ n) : Lay n d := ⟨h.1, Nat.le_trans h.2 k⟩
theorem lays_up {m n : Nat} {ds : List PyData} (h : Lays m ds) (k : m ≤ n) : Lays n ds := ⟨h.1, Nat.le_trans h.2 k⟩
theorem lays_mem {n : Nat} : ∀ {ds : List PyData}, Lays n ds → ∀ d ∈ ds, Lay n d
  | d :: ds, h, x, hx => by
    have h1 : (d.canLay0 && PyData.canLayAll0 ds) = true := h.1
    have h2 : max d.depth (PyData.depthAll ds) ≤ n := h.2
    rw [Bool.and_eq_true] at h1
    rw [Nat.max_le] at h2
    rcases List.mem_cons.mp hx with e | e
    · rw [e]
      exact ⟨h1.1, h2.1⟩
    · exact lays_mem ⟨h1.2, h2.2⟩ x e
theorem lays_strs {n : Nat} {ns : List Str} (h : ∀ s ∈ ns, PyData.strOk s = true) : Lays n (ns.map PyData.str) := lays_of fun d hd => by
  obtain ⟨s, hs, rfl⟩ := List.mem_map.mp hd
  exact lay_str (h s hs)
theorem lays_ints {n : Nat} {ns : List Int} : Lays n (ns.map PyData.int) := lays_of fun d hd => by
  obtain ⟨s, _, rfl⟩ := List.mem_map.mp hd
  exact lay_int
theorem shape {n : Nat} {d : PyData} (h : Lay n d) (k : n ≤ 64) : SeqAt.shaped d = true := by
  unfold SeqAt.shaped
  rw [Bool.and_eq_true]
  exact ⟨h.1, decide_eq_true (Nat.le_trans h.2 k)⟩
theorem eq_refl {n : Nat} {d : PyData} (h : Lay n d) : PyData.eqv d d = true := SeqAt.eqv_refl d h.1

/-! ### strict order of lists of texts, and equal lists -/
def Asc (l : List Str) : Prop := l.Pairwise fun x y => x.cps.toList < y.cps.toList
theorem asc_of : ∀ {l : List Str}, sortedS l = true → l.Nodup → Asc l := by
  intro l h nd
  have key : ∀ (d i : Nat) (x y : Str), l[i]? = some x → l[i + (d + 1)]? = some y → x.cps.toList < y.cps.toList := by
    intro d
    induction d with
    | zero => exact fun i x y h1 h2 => sorted_at h nd h1 h2
    | succ d ih =>
      intro i x y h1 h2
      have hl : i + (d + 1) < l.length := by
        have := (List.getElem?_eq_some_iff.mp h2).1
        omega
      have h3 : l[i + (d + 1)]? = some l[i + (d + 1)] := List.getElem?_eq_getElem hl
      exact List.lt_trans (ih i x _ h1 h3) (sorted_at h nd h3 h2)
  refine List.pairwise_iff_getElem.mpr fun i j hi hj hij => ?_
  exact key (j - i - 1) i _ _ (List.getElem?_eq_getElem hi) (by rw [show i + (j - i - 1 + 1) = j by omega]; exact List.getElem?_eq_getElem hj)
theorem asc_nodup {l : List Str} (h : Asc l) : l.Nodup := List.Pairwise.imp (fun {x y} hxy e => by
  rw [e] at hxy
  exact List.lt_irrefl _ hxy) h
theorem asc_eq : ∀ {l m : List Str}, Asc l → Asc m → (∀ x, x ∈ l ↔ x ∈ m) → l = m
  | [], [], _, _, _ => rfl
  | [], y :: m, _, _, h => absurd ((h y).mpr List.mem_cons_self) (by simp)
  | x :: l, [], _, _, h => absurd ((h x).mp List.mem_cons_self) (by simp)
  | x :: l, y :: m, h1, h2, h => by
    obtain ⟨a1, a2⟩ := List.pairwise_cons.mp h1
    obtain ⟨b1, b2⟩ := List.pairwise_cons.mp h2
    have e : x = y := by
      rcases List.mem_cons.mp ((h x).mp List.mem_cons_self) with e | e
      · exact e
      · rcases List.mem_cons.mp ((h y).mpr List.mem_cons_self) with e' | e'
        · exact e'.symm
        · exact absurd (List.lt_trans (a1 y e') (b1 x e)) (List.lt_irrefl _)
    subst e
    have nl : x ∉ l := fun z => List.lt_irrefl _ (a1 x z)
    have nm : x ∉ m := fun z => List.lt_irrefl _ (b1 x z)
    rw [asc_eq a2 b2 fun z => ⟨fun hz => (List.mem_cons.mp ((h z).mp (List.mem_cons_of_mem _ hz))).resolve_left fun e => nl (e ▸ hz), fun hz => (List.mem_cons.mp ((h z).mpr (List.mem_cons_of_mem _ hz))).resolve_left fun e => nm (e ▸ hz)⟩]

/-! ### sorted(xs), xs tuples of ints of one length: some order -/
def rSortRows (K : PySem.W.Frag) : List V → Hp → VK → Prop := fun vs H Q => ∃ (a : Addr) (xs : List V) (d : Nat) (B : Int), vs = [V.ref a] ∧ SqL K H a xs ∧ xs.length < 64 ∧ (∀ x ∈ xs, ∃ ns, TupI K H x ns ∧ ns.length = d ∧ TS.Bd B ns) ∧ (d = 0 → xs.length ≤ 1) ∧
  ∀ (ys : List V) (p : Addr), ys.Perm xs → H p = none → Q (.ref p) (upd H p (.lst ys))
theorem cr_sortRows {X : Cx} : CallR X (.builtin "sorted") (rSortRows X.K) := by
  intro pins s σ H vs us Q I r h
  obtain ⟨a, xs, d, B, rfl, hs, h64, hx, h1, q⟩ := h
  by_cases hd : 1 ≤ d
  · exact cr_sortT hd pins s σ H _ us Q I r ⟨a, xs, rfl, hs, h64, hx, fun ys p pm _ n => q ys p pm n⟩
  · have hl1 : xs.length ≤ 1 := h1 (by omega)
    obtain ⟨its, rv, hl, hz⟩ := I.list hs
    have hlen := rv.length
    rw [Vals.ref1 r]
    refine Srt.sorted_any hl.isList (by rw [← hlen]; exact hz) (fun h2 => absurd h2 (by omega)) fun out hp => ?_
    have e : out = its := by
      match its, hlen, hp with
      | [], _, hp => exact hp.eq_nil
      | [v], _, hp => exact List.perm_singleton.mp hp
      | _ :: _ :: _, hlen, _ =>
        simp only [List.length_cons] at hlen
        omega
    subst e
    obtain ⟨ep, he'⟩ := PyProof.Rows.sortedAll_at s.heap out out.toArray
    exact ⟨.ref _, upd H (s.heap.objs.size + 1) (.lst xs), I.laid (t' := s.toks) (fun _ _ => PyProof.Rows.sortedAll_old) (Nat.le_succ _) ⟨hz, out, ep, rv, by simpa using he'⟩, rfl, q xs _ (List.Perm.refl _) (I.hok.fresh (Nat.le_succ _))⟩

/-! ### the room of a call for a comparison of data -/
theorem room {k : Nat} {A : Around} (r : Room k A) : A.units + 65 < cLine := by
  have := r.un
  omega

/-! ### a list or a tuple of data -/
theorem dp_seq {K : PySem.W.Frag} {H : Hp} {v : V} {ds : List PyData} (h : Dp K H v (.list ds) ∨ Dp K H v (.tuple ds)) : ∃ a xs, v = .ref a ∧ DpAll K H xs ds ∧ (SqL K H a xs ∨ SqT K H a xs) := by
  rcases h with h | h
  · obtain ⟨a, xs, rfl, s, t⟩ := dp_lst h
    exact ⟨a, xs, rfl, t, .inl s⟩
  · obtain ⟨a, xs, rfl, s, t⟩ := dp_tup h
    exact ⟨a, xs, rfl, t, .inr s⟩

/-! ### name = {k: v for ..} -/
section
variable {X : Cx}
theorem ps_setDc {i : Nat} {y : Str} {py : Pos} {kx vx tg iter : Expr} {ifs : List Expr} {scope : Scope} {own : List (Str × Nat)} {pos spos : Pos} {wi : TI} {g : TG} {tt : TT} {tk tv : TE} (hc : X.calm = true) (hN : X.N.Nodup) (hy : X.N[i]? = some y) (hyl : X.env.scope.names.lookup y = some .local)
    (hsw : swapsWith (.DictComp kx vx [⟨tg, iter, ifs, 0⟩] scope pos) (some (.Name y py)) spos.line X.env = pure true) (hi : PI X tg iter wi) (ok : BlkOk X.N X.env.scope scope own)
    (hg : ∀ (s : Shared) (H : Hp) (C : Addr) (cl : List (Str × Addr)) (fp : List Addr), PG (X.blk s H scope (compEnvC scope cl C X.env) fp) tg g) (ht : ∀ (s : Shared) (H : Hp) (C : Addr) (cl : List (Str × Addr)) (fp : List Addr), PTs (X.blk s H scope (compEnvC scope cl C X.env) fp) ifs tt)
    (hk : ∀ (s : Shared) (H : Hp) (C : Addr) (cl : List (Str × Addr)) (fp : List Addr), PE (X.blk s H scope (compEnvC scope cl C X.env) fp) kx tk)
    (he : ∀ (s : Shared) (H : Hp) (C : Addr) (cl : List (Str × Addr)) (fp : List Addr), PE (X.blk s H scope (compEnvC scope cl C X.env) fp) vx tv) (hs : ∀ x, foldedSetIterable iter X.env x = pure x := by intro _; rfl) :
    PS X (.Assign [.Name y py] (.DictComp kx vx [⟨tg, iter, ifs, 0⟩] scope pos) spos) (tAsg (tDc wi g tt tk tv (own.map (·.2))) (gName i)) := by
  refine ⟨fun pins s σ H D I h => ?_⟩
  rw [exec_Assign_Name_used _ _ _ _ hsw]
  refine wpAny_bind (wpAny_standAt (wpAny_bind ?_))
  show wpAny _ X.A (do let _ ← comprehension (.DictComp kx vx [⟨tg, iter, ifs, 0⟩] scope pos) scope X.env _ newDict false (eval iter X.env) (some (assign (.Name y py) X.env))) _ _ s
  have h : tDc wi g tt tk tv (own.map (·.2)) σ H (fun x H1 => gName i x σ H1 D.nx) := h
  refine wpAny_bind (thn (dc_core (Qf := fun _ s' => SP X pins D .next s') hc hN I hi ok hg ht hk he hs h fun L C s' m H' I' q hn f => ?_) fun _ s' hq => wpAny_pure (wpAny_pure hq))
  show wpAny _ _ (assign (.Name y py) X.env (.ref L)) _ _ _
  refine wpAny_assign_Name (store_ok2 (v := V.ref L) I' hN hy (.inl hyl) rfl (fun s2 I2 ⟨a, sb, ha⟩ => ?_) (.inr hyl))
  obtain ⟨f0, f1, f2, f3, f4, f5⟩ := f
  have haC : C ≠ a := by
    rcases ha with z | z
    · rw [z]; exact f1
    · exact fun e => f4 y a z e.symm
  refine ⟨m, hn.sameBut sb haC, fun h3 sb3 => ?_⟩
  exact ⟨_, H', I2.turned (t' := s2.toks) (fun b o hb e => (sb3.2 b hb).trans e) f0 f1 f3 f4 f5, q⟩
theorem sw_trueD {kx vx : Expr} {gs : List Comprehension} {scope : Scope} {pos py : Pos} {y : Str} {l : Nat} {env : Env} (hk : env.scope.kind = .function) (hy : env.scope.names.lookup y = some .local) (hl : (py.line == pos.line) = true)
    (ha : (scope.names.any fun (n, k) => n == y && (k == .local || k == .cell)) = false) : swapsWith (.DictComp kx vx gs scope pos) (some (.Name y py)) l env = pure true := by
  have ky : env.kindOf y = some .local := hy
  have hb : env.blockKind = .function := by unfold Env.blockKind; rw [hk]; rfl
  unfold swapsWith
  simp only [hb, ky, ha, Expr.pos, hl]
  rfl
end
end Dx
/-! Own errors with one field, whose __init__ says super().__init__(f'..'). -/
namespace Er
open PySem PySem.Spec PyProof.Rows L2 Bx TL Dx Sup NdefX
/-- __init__(self, y): the error at a gets a dict with f = y -/
def spErr (ok : V → Prop) (C : Addr) (f : Str) : Sp := fun vs H Q _ => ∃ (a : Addr) (v : V), vs = [.ref a, v] ∧ ok v ∧ H a = some (exo a C none) ∧
  ∀ (d : Addr) (H' : Hp), (∀ b o, b ≠ a → H b = some o → H' b = some o) → H d = none → d ≠ a → H' a = some (exo a C (some d)) → H' d = some (exd d [(f, v)]) → Q .non H'
/-- the class at C, named x: an own error over ValueError with one field -/
structure Err (P : Program) (w : World) (K : PySem.W.Frag) (mg : Str → Option Value) (base : Heap) (x : Str) (C : Addr) (f y : Str) (ok : V → Prop) (k : Nat) : Prop where
  init : ∃ (fI : Addr) (fd : FuncData), PySem.W.findIn K (.ref C) "__init__" = some (some (.ref fI)) ∧ PySem.W.typeIn K (.ref fI) = some (.type "function") ∧ FnOk P w K mg base CX0 k fI fd ["self", y] (spErr ok C f) ∧ Binds K fd ["self", y] []
  exc : OexC K C
  g : mg x = some (.ref C)
  te : PySem.W.exmOne K (.ref C) (.ref C) = some true
  xf : XfC K C
  no : PySem.W.findIn K (.ref C) f = some none
section
variable {X : Cx} {x : Str} {C : Addr} {f y : Str} {ok : V → Prop} {k : Nat} {e : Expr} {te : TE} {p pos pos' : Pos} {W : WX}
theorem ps_raiseE (c : Err X.prog X.w X.K X.mg X.base x C f y ok k) (hc : X.calm = true) (tk : Takes X W) (hr : Room (k + 1) X.A) (he : PE X e te) (hg : Gl X x := by rfl) (hdb : (x == ("__debug__" : Str)) = false := by decide)
    (hst : starEach [e] X.env = (false, eval e X.env) :: starEach [] X.env := by rfl) (hpl : (backTo pos (starEach [] X.env)).any (·.1) = false := by rfl) :
    PS X (.Raise (some (.Call (.Name x p) [e] [] pos)) none pos') (fun _ σ H => te σ H fun v H1 => ok v ∧ ∀ d H3, Same H1 H3 → H1 d = none → H3 d = some (.xd [(f, v)]) → W (.ref C) (some d) σ H3) := by
  obtain ⟨fI, fd, iC, tI, F1, hb⟩ := c.init
  have he2 : PE X e (fun σ H Q => ∃ R : VK, te σ H R ∧ ∀ v H1, R v H1 → Q v H1) := ⟨fun pins s σ H Q I ⟨R, h, hR⟩ => thn (he.run pins s σ H R I h) fun v s1 ⟨x, H1, I1, r, q⟩ => ⟨x, H1, I1, r, hR _ _ q⟩⟩
  have z := ps_raise (pos := pos') hc tk (pmk_oex (pos := pos) (p := p) (dvs := []) c.exc iC tI F1 hr hb .nil (pass0) hg c.g (pa_cons he2 pa_nil hst) hdb hst hpl)
  refine ⟨fun pins s σ H D I h => z.run pins s σ H D I ?_⟩
  refine ⟨_, h, fun v H1 hq => ?_⟩
  obtain ⟨hok, hw⟩ := hq
  refine ⟨by show 1 ≤ 1000; decide, fun a na => ⟨a, v, rfl, hok, upd_same, fun d H' keep nd da ea ed => ?_⟩⟩
  have nd1 : H1 d = none := by
    rw [upd_ne da] at nd
    exact nd
  refine ⟨rfl, d, _, ea, ed, nd1, hw d _ (fun b o e => ?_) nd1 upd_same⟩
  have ba : b ≠ a := ne_of_none e na
  rw [upd_ne (ne_of_none e nd1), del_ne ba]
  exact keep b o ba (by rw [upd_ne ba]; exact e)
end
/-! ### isinstance of an error with a dict -/
def rIsD (K : PySem.W.Frag) (a : Addr) (cls : Value) (d : Option Addr) : List V → Hp → VK → Prop := fun xs H Q => ∃ (D dd : Addr) (c : V) (cv : Value) (b : Bool) (fs : List (Str × V)), xs = [.ref a, c] ∧ cls = .ref D ∧ d = some dd ∧ (PySem.W.clsIn K D).isSome = true ∧ ExcC K D ∧
  H dd = some (.xd fs) ∧ (∀ u, RelV c u → u = cv) ∧ PySem.W.kitOne K (.ref D) cv = some b ∧ Q (.bl b) H
theorem call_isD {X : Cx} {a : Addr} {cls : Value} {d : Option Addr} {oe : Obj} {pn : List (Addr × Obj)} (hz : Zc cls d oe) (hf : ∃ vs, oe.data = .fields vs) : CallR (X.suite a ((a, oe) :: pn)) (.builtin "isinstance") (rIsD X.K a cls d) := by
  intro pins s σ H xs us Q I r h
  obtain ⟨D, dd, c, cv, b, fs, rfl, rfl, rfl, hcl, C, hdd, hcv, e, q⟩ := h
  cases r with
  | cons rx rr =>
    cases rr with
    | cons rt rr =>
      cases rr
      cases rx
      have ec := hcv _ rt
      subst ec
      obtain ⟨hget, _⟩ := I.pin (a, oe) (List.mem_append.mpr (.inl List.mem_cons_self))
      obtain ⟨vs, hv⟩ := hf
      obtain ⟨oD, hD⟩ : ∃ o, s.heap.get? dd = some o := by
        obtain ⟨mA, hn, _⟩ := I.hok dd _ hdd
        obtain ⟨o, _, _, e, _⟩ := hn
        exact ⟨o, e⟩
      have J : PySem.W.InstAt s.heap a oe D (some oD) := by
        obtain ⟨oc, od, oda, osl⟩ := oe
        obtain ⟨h1, h2⟩ := hz
        dsimp only at h1 h2 hv
        subst h1 h2 hv
        exact ⟨hget, rfl, rfl, hD⟩
      exact PySem.W.kia_one (PySem.W.kitx_exc hcl C.hg C.hk C.hs C.ha C.hn C.ht C.hm) I.kIn J e (fun z => nomatch z) fun tk => ⟨.bl b, H, I.kept (t' := tk) fun _ _ z => z, rfl, q⟩
/-! ### calls of defs that may raise -/
section
variable {X : Cx} {CX : CXT} {k n : Nat} {f : Addr} {fd : FuncData} {ps ks : List Str} {sp : Sp} {E : L2.St → XK} {x : Str} {p pos : Pos} {e : Expr} {es : List Expr} {kws : List Keyword} {t tk : TA} {g : List Value → List Value → List Value} {gV : List V → List V → List V}
theorem run_fnNS {pins : List (Addr × Obj)} {σ : L2.St} {H : Hp} {s : Shared} {Q : VK} {us ws : List Value} {vs zs : List V} (F : FnOk X.prog X.w X.K X.mg X.base CX k f fd ps sp) (hr : Room k X.A) (hb : KBn X.K fd ps n ks g gV) (hx : PassesAt CX X σ (E σ))
    (I : Inv X pins σ H s) (r : Vals vs us) (rz : Vals zs ws) (l1 : vs.length = n) (l2 : zs.length = ks.length) (h : sp (gV vs zs) H Q (E σ)) : wpAny (model X.prog X.w) X.A (call (.ref f) us (ks.zip ws)) (EP X pins σ Q) X.xe s := by
  refine wpAny_call (codeAny_mono (F.run X.A X.stack s H ⟨us, ks.zip ws⟩ (g us ws) (gV vs zs) Q (E σ) hr I.env0 (hb.to s us ws I.kIn (by rw [← r.length]; exact l1) (by rw [← rz.length]; exact l2)) (hb.rel r rz) h) fun r s' hq => ?_)
  cases r with
  | error e => exact hx pins H s e s' I hq
  | ok fl =>
    cases fl with
    | ret u => exact I.after hq
    | next => exact False.elim hq
    | brk => exact False.elim hq
    | cont => exact False.elim hq
def tCallNS (n m : Nat) (sp : Sp) (gV : List V → List V → List V) (E : L2.St → XK) (t tk : TA) : TE := fun σ H Q => t σ H fun vs H1 => tk σ H1 fun zs H2 => vs.length = n ∧ zs.length = m ∧ sp (gV vs zs) H2 Q (E σ)
theorem pe_callNS (F : FnOk X.prog X.w X.K X.mg X.base CX k f fd ps sp) (hr : Room k X.A) (hg : Gl X x) (hm : X.mg x = some (.ref f)) (hk : PySem.W.keepIn X.K (.ref f) = true) (hb : KBn X.K fd ps n ks g gV) (hx : ∀ σ, PassesAt CX X σ (E σ))
    (ha : PA X (e :: es) t) (hkw : PK X kws tk) (hall : (backToKw pos (keywordEach kws X.env)).all (·.1.isSome) = true := by rfl) (hks : (backToKw pos (keywordEach kws X.env)).filterMap (·.1) = ks := by rfl)
    (hdb : (x == ("__debug__" : Str)) = false := by decide) (he : starEach (e :: es) X.env = (false, eval e X.env) :: starEach es X.env := by rfl)
    (hpl : ((backTo pos (starEach (e :: es) X.env)).any (·.1) || (backToKw pos (keywordEach kws X.env)).any (·.1.isNone)) = false := by rfl) :
    PE X (.Call (.Name x p) (e :: es) kws pos) (tCallNS n ks.length sp gV E t tk) := by
  refine ⟨fun pins s σ H Q I h => ?_⟩
  refine wpAny_Call_Name_kw (ld_glob I hg hm ?_ hdb)
  refine PySem.W.callWith_KW (h₀ := X.base) I.ok.mod.kin hk hall (thn (ha.run pos pins s σ H _ I h) fun us s1 ⟨vs, H1, I1, r, q⟩ => ?_) hpl he
  refine thn (hkw.run pos pins s1 σ H1 _ I1 q) fun ws s2 ⟨zs, H2, I2, rz, l1, l2, q2⟩ => ⟨I2.kIn, ?_⟩
  rw [hks]
  exact run_fnNS F hr hb (hx σ) I2 r rz l1 l2 q2
/-- the module's name x holds a def of one parameter and a keyword-only one with a default; it may raise -/
structure CalX (P : Program) (w : World) (K : PySem.W.Frag) (mg : Str → Option Value) (base : Heap) (x y : Str) (k : Nat) (ps : List Str) (dv : V) (sp : Sp) : Prop where
  ex : ∃ (f : Addr) (fd : FuncData), FnOk P w K mg base (L2.CX P w) k f fd ps sp ∧ mg x = some (.ref f) ∧ PySem.W.keepIn K (.ref f) = true ∧ (∃ ds, Vals [dv] ds ∧ Binds K fd ps ds) ∧ KBn K fd ps 1 [y] (fun us ws => us ++ ws) (fun vs zs => vs ++ zs)
variable {y : Str} {dv : V} {W : WX} {tk1 : TA}
def tCalX (sp : Sp) (dv : V) (W : WX) (t : TA) : TE := fun σ H Q => t σ H fun vs H1 => sp (vs ++ [dv]) H1 Q (fun cls d H' => W cls d σ H')
def tCalXK (sp : Sp) (W : WX) (t tk : TA) : TE := fun σ H Q => t σ H fun vs H1 => tk σ H1 fun zs H2 => vs.length = 1 ∧ zs.length = 1 ∧ sp (vs ++ zs) H2 Q (fun cls d H' => W cls d σ H')
theorem pe_calX (c : CalX X.prog X.w X.K X.mg X.base x y k ps dv sp) (tkW : Takes X W) (hr : Room k X.A) (ha : PA X (e :: es) t) (hg : Gl X x := by rfl) (hdb : (x == ("__debug__" : Str)) = false := by decide)
    (he : starEach (e :: es) X.env = (false, eval e X.env) :: starEach es X.env := by rfl) (hpl : (backTo pos (starEach es X.env)).any (·.1) = false := by rfl) : PE X (.Call (.Name x p) (e :: es) [] pos) (tCalX sp dv W t) := by
  obtain ⟨f, fd, ok, hm, kp, ⟨ds, hv, hb⟩, _⟩ := c.ex
  have z := pe_callSD (E := fun σ cls d H' => W cls d σ H') ok hr hg hm kp hb hv (fun σ => passAt tkW σ) ha hdb he hpl (p := p)
  exact ⟨fun pins s σ H Q I h => z.run pins s σ H Q I h⟩
theorem pe_calXK (c : CalX X.prog X.w X.K X.mg X.base x y k ps dv sp) (tkW : Takes X W) (hr : Room k X.A) (ha : PA X (e :: es) t) (hkw : PK X kws tk1) (hg : Gl X x := by rfl) (hall : (backToKw pos (keywordEach kws X.env)).all (·.1.isSome) = true := by rfl) (hks : (backToKw pos (keywordEach kws X.env)).filterMap (·.1) = [y] := by rfl)
    (hdb : (x == ("__debug__" : Str)) = false := by decide) (he : starEach (e :: es) X.env = (false, eval e X.env) :: starEach es X.env := by rfl)
    (hpl : ((backTo pos (starEach (e :: es) X.env)).any (·.1) || (backToKw pos (keywordEach kws X.env)).any (·.1.isNone)) = false := by rfl) : PE X (.Call (.Name x p) (e :: es) kws pos) (tCalXK sp W t tk1) := by
  obtain ⟨f, fd, ok, hm, kp, _, hb⟩ := c.ex
  have z := pe_callNS (E := fun σ cls d H' => W cls d σ H') ok hr hg hm kp hb (fun σ => passAt tkW σ) ha hkw hall hks hdb he hpl (p := p)
  exact ⟨fun pins s σ H Q I h => z.run pins s σ H Q I h⟩
end
end Er
/-! zip of two tuples, walked; great products and quotients; xs[::-1]. -/
namespace Zx
open PySem PySem.Spec PyProof.Rows L2 Bx TL Dx
theorem walk_zipT {K : PySem.W.Frag} {a b : Addr} {xs ys : List V} {n : Nat} (hn : n = min xs.length ys.length) : Walk (RZ.ItzT K a b) n (fun H => SqT K H a xs ∧ SqT K H b ys) (YPair (fun i => xs[i]?) (fun i => ys[i]?)) := by
  subst hn
  refine ⟨fun i _ hi q => ?_, fun _ q => ⟨xs, ys, q.1, q.2, by omega⟩, fun i H v H' _ q y => ?_⟩
  · have h1 : i < xs.length := by omega
    have h2 : i < ys.length := by omega
    exact ⟨xs, ys, xs[i], ys[i], q.1, q.2, by simp [h1], by simp [h2]⟩
  · obtain ⟨T, x, z, h1, h2, h3, h4, h5⟩ := y
    exact ⟨T, x, z, h1, h2, h3, h4 xs q.1, h5 ys q.2⟩
end Zx
namespace Zx
open PySem PySem.Spec PyProof.Rows L2
theorem ne_t {p : Prop} [Decidable p] (h : (!decide p) = true) : ¬ p := by simpa using h
theorem ne_f {p : Prop} [Decidable p] (h : ¬ (!decide p) = true) : p := by simpa using h
theorem int_t {x y : Int} (h : decide (V.int x = V.int y) = true) : x = y := V.int.inj (of_decide_eq_true h)
theorem int_f {x y : Int} (h : ¬ decide (V.int x = V.int y) = true) : x ≠ y := fun e => h (decide_eq_true (congrArg V.int e))
theorem int_nt {x y : Int} (h : (!decide (V.int x = V.int y)) = true) : x ≠ y := fun e => ne_t h (congrArg V.int e)
theorem int_nf {x y : Int} (h : ¬ (!decide (V.int x = V.int y)) = true) : x = y := V.int.inj (ne_f h)
end Zx
namespace Zx
open PySem PySem.Spec PyProof.Rows L2 Bx
section
variable {K : PySem.W.Frag}
theorem ty_tup {H : Hp} {a : Addr} {xs : List V} (h : SqT K H a xs) : TyX K H (.ref a) (.type "tuple") := by
  rcases h with (h | ⟨o, h⟩) | h
  · exact .base (.tup h)
  · exact .fTuple h
  · obtain ⟨o, its, n, h1, h2, _⟩ := h
    exact .kTuple h1 h2
def spRight : Sp := fun vs H Q _ => ∃ a : Addr, vs = [.ref a] ∧ Src H a ∧ ∀ H', SameBut a H H' → Q (.bl true) H'
end
end Zx
namespace Zx
open PySem PySem.Spec PyProof.Rows L2 Bx
theorem cont_of {α : Type} {R X : α → Prop} {G : Prop} (first : (∀ a, R a → X a) → G) (rest : ∀ a, R a → X a) : G := first rest
theorem cont_of2 {α β : Type} {R X : α → β → Prop} {G : Prop} (first : (∀ a b, R a b → X a b) → G) (rest : ∀ a b, R a b → X a b) : G := first rest
theorem but_new {a : Addr} {H H3 : Hp} {p : Addr} {o : HO} (h : H p = none) (s : SameBut a (upd H p o) H3) : SameBut a H H3 := fun b x n e => s b x n (by rw [upd_ne (ne_of_none e h)]; exact e)
theorem but_at {a : Addr} {H H2 : Hp} {p : Addr} {o : HO} (h : H p = none) (s : SameBut a H H2) : SameBut a H (upd H2 p o) := fun b x n e => by
  rw [upd_ne (ne_of_none e h)]
  exact s b x n e
theorem src_same {a : Addr} {H1 H2 : Hp} (s : Src H1 a) (t : Same H1 H2) : Src H2 a := by
  obtain ⟨n, c, h⟩ := s
  exact ⟨n, c, t _ _ h⟩
theorem src_ne {a o : Addr} {H : Hp} (s : Src H a) (h : H o = none) : a ≠ o := by
  obtain ⟨n, c, z⟩ := s
  exact ne_of_none z h
theorem but_free {a o : Addr} {H H1 : Hp} (s : SameBut a H H1) (n : o ≠ a) (h : H1 o = none) : H o = none := by
  cases e : H o with
  | none => rfl
  | some x =>
    rw [s o x n e] at h
    cases h
theorem src_upd {a o : Addr} {H : Hp} {u : HO} (s : Src H a) (n : a ≠ o) : Src (upd H o u) a := by
  obtain ⟨x, c, h⟩ := s
  exact ⟨x, c, by rw [upd_ne n]; exact h⟩

end Zx
namespace Zx
open PySem PySem.Spec PyProof.Rows L2 Bx
theorem set_same {σ : L2.St} {i : Nat} {v : V} (h : σ[i]? = some (some v)) : σ.set i (some v) = σ := by
  obtain ⟨hi, e⟩ := List.getElem?_eq_some_iff.mp h
  rw [← e]
  exact List.set_getElem_self hi
/-- if c: name = e -/
theorem if_asg {c : Prop} [Decidable c] {te : TE} {i : Nat} {D : Ends} {σ : L2.St} {H : Hp} {old : V} (R : V → Hp → Prop) (hi : σ[i]? = some (some old))
    (h1 : c → ∀ Z : V → Hp → Prop, (∀ v H', R v H' → Z v H') → te σ H Z) (h2 : ¬ c → R old H) (rest : ∀ v H', R v H' → D.nx (σ.set i (some v)) H') : if c then tAsg te (gName i) D σ H else tNext D σ H := by
  split
  · rename_i h
    exact h1 h (fun v H' => D.nx (σ.set i (some v)) H') rest
  · rename_i h
    have := rest old H (h2 h)
    rw [set_same hi] at this
    exact this
/-- if c: name = e else: name = f -/
theorem if_asg2 {c : Prop} [Decidable c] {te tf : TE} {i : Nat} {D : Ends} {σ : L2.St} {H : Hp} (R : V → Hp → Prop)
    (h1 : c → ∀ Z : V → Hp → Prop, (∀ v H', R v H' → Z v H') → te σ H Z) (h2 : ¬ c → ∀ Z : V → Hp → Prop, (∀ v H', R v H' → Z v H') → tf σ H Z) (rest : ∀ v H', R v H' → D.nx (σ.set i (some v)) H') : if c then tAsg te (gName i) D σ H else tAsg tf (gName i) D σ H := by
  split
  · rename_i h
    exact h1 h (fun v H' => D.nx (σ.set i (some v)) H') rest
  · rename_i h
    exact h2 h (fun v H' => D.nx (σ.set i (some v)) H') rest
end Zx
/-! Own classes: methods that operators and built-ins call. -/
namespace Ow
open PySem PySem.Spec PyProof.Rows L2 Bx TL Dx Zx
/-- the class at C (or one above it) has the method m, a def that keeps sp -/
structure OwM (P : Program) (w : World) (K : PySem.W.Frag) (mg : Str → Option Value) (base : Heap) (CX : CXT) (C : Addr) (m : Str) (k : Nat) (ps : List Str) (sp : Sp) : Prop where
  ex : ∃ (f : Addr) (fd : FuncData), FnOk P w K mg base CX k f fd ps sp ∧ PySem.W.findIn K (.ref C) m = some (some (.ref f)) ∧ PySem.W.isFn K (.ref f) = true ∧ PySem.W.keepIn K (.ref f) = true ∧ Binds K fd ps []
section
variable {X : Cx} {pins : List (Addr × Obj)} {σ : L2.St} {H : Hp} {s : Shared} {C a dx : Addr} {fs : List (Str × V)}
/-- an instance as the library's operators see it -/
theorem inst_of (I : Inv X pins σ H s) (e : H a = some (.ins C dx fs)) : ∃ od, PySem.W.InstAt s.heap a (PySem.W.instObj C dx) C (some od) := by
  obtain ⟨mA, J, _⟩ := ins_get I.hok e
  obtain ⟨od, J2, _⟩ := J.look
  exact ⟨od, J2⟩
/-- a def is called, somewhere within -/
theorem call_at {CX : CXT} {k : Nat} {f : Addr} {fd : FuncData} {ps : List Str} {sp : Sp} {A1 : Around} {us : List Value} {vs : List V} {Q : VK} {E : XK} {E1 : Value → Shared → Prop} (sb : Sub X k A1) (ok : FnOk X.prog X.w X.K X.mg X.base CX k f fd ps sp) (b : Binds X.K fd ps [])
    (I : Inv X pins σ H s) (r : Vals vs us) (hsp : sp vs H Q E) (hx : ∀ e s', CX X.stack H s E e s' → E1 e s') : wpAny (model X.prog X.w) A1 (call (.ref f) us) (EP X pins σ Q) E1 s := by
  have z0 := I.env0
  have e0 : Env0 X.prog X.w X.K X.mg X.base A1 X.stack s H := ⟨by rw [sb.fr]; exact z0.frames, z0.mod, z0.bs, z0.bsz, z0.funs, z0.frf, z0.hok, z0.bare⟩
  have n1 := ok.len _ _ _ _ hsp
  have n2 : us.length = ps.length := by rw [← r.length]; exact n1
  have bb := b s us I.kIn (by rw [List.append_nil]; exact n2)
  rw [List.append_nil] at bb
  refine wpAny_call (codeAny_mono (ok.run A1 X.stack s H ⟨us, []⟩ us vs Q E sb.room e0 bb r hsp) fun res s' back => ?_)
  match res, back with
  | .error e, back => exact hx e s' back
  | .ok (.ret u), back => exact I.after back
  | .ok .next, back => exact back.elim
  | .ok .brk, back => exact back.elim
  | .ok .cont, back => exact back.elim
theorem sub_self {n : Nat} (hr : Room n X.A) : Sub X n X.A := ⟨hr, rfl⟩
/-- len(o) -/
def rLenO (C : Addr) (sp : Sp) : List V → Hp → VK → Prop := fun xs H Q => ∃ a dx fs, xs = [.ref a] ∧ H a = some (.ins C dx fs) ∧ sp [.ref a] H (fun v H' => ∃ n : Nat, v = .int (n : Int) ∧ n < 2 ^ 62 ∧ Q (.int (n : Int)) H') E0
theorem call_lenO {k : Nat} {ps : List Str} {sp : Sp} (c : OwM X.prog X.w X.K X.mg X.base CX0 C "__len__" k ps sp) (hr : Room (k + 1) X.A) : CallR X (.builtin "len") (rLenO C sp) := by
  intro pins s σ H xs us Q I r h
  obtain ⟨a, dx, fs, rfl, ha, hsp⟩ := h
  obtain ⟨f, fd, ok, hs, hf, _, hb⟩ := c.ex
  obtain ⟨od, J⟩ := inst_of I ha
  obtain ⟨m, hF⟩ := I.fr
  have r0 := r
  cases r with
  | cons r1 r2 =>
    cases r2
    cases r1
    refine PySem.W.len_K hF I.ok.mod.kin J hs hf ?_
    refine wpAny_mono (call_at ((sub_self hr).in1) ok hb I r0 hsp (fun e s' z => z.elim)) (fun u s' hu => ?_) (fun _ _ z => z)
    obtain ⟨v, H', I', rv, n, rfl, hn, hq⟩ := hu
    obtain ⟨t, rfl⟩ := rv
    exact ⟨⟨by omega, by omega⟩, .int n, H', I'.tok _, ⟨_, rfl⟩, hq⟩
/-- x in o, x not in o -/
def rInO (C : Addr) (sp : Sp) (neg : Bool) : V → V → Hp → VK → Prop := fun x y H Q => ∃ a dx fs, y = .ref a ∧ H a = some (.ins C dx fs) ∧ sp [.ref a, x] H (fun v H' => ∃ b : Bool, v = .bl b ∧ Q (.bl (b != neg)) H') E0
theorem truth_bl {M : Model} {A : Around} {E : Value → Shared → Prop} {s : Shared} {b : Bool} {Q : Bool → Shared → Prop} (h : Q b s) : wpAny M A (truthy (.bool b)) Q E s := by
  unfold truthy
  exact wpAny_pure h
theorem op_inO {k : Nat} {ps : List Str} {sp : Sp} (c : OwM X.prog X.w X.K X.mg X.base CX0 C "__contains__" k ps sp) (hr : Room k X.A) : OpR X (compareOp .In) (rInO C sp false) := by
  intro pins s σ H x y u v Q I rx ry h
  obtain ⟨a, dx, fs, rfl, ha, hsp⟩ := h
  obtain ⟨f, fd, ok, hs, hf, _, hb⟩ := c.ex
  obtain ⟨od, J⟩ := inst_of I ha
  obtain ⟨m, hF⟩ := I.fr
  cases ry
  refine PySem.W.in_K hF I.ok.mod.kin J hs hf ?_
  refine wpAny_mono (call_at (sub_self hr) ok hb I (vs := [.ref a, x]) (.cons rfl (.cons rx .nil)) hsp (fun e s' z => z.elim)) (fun u s' hu => ?_) (fun _ _ z => z)
  obtain ⟨v, H', I', rv, b, rfl, hq⟩ := hu
  cases rv
  refine truth_bl ⟨.bl b, H', I', rfl, ?_⟩
  rw [show (b != false) = b by cases b <;> rfl] at hq
  exact hq
theorem op_notInO {k : Nat} {ps : List Str} {sp : Sp} (c : OwM X.prog X.w X.K X.mg X.base CX0 C "__contains__" k ps sp) (hr : Room k X.A) : OpR X (compareOp .NotIn) (rInO C sp true) := by
  intro pins s σ H x y u v Q I rx ry h
  obtain ⟨a, dx, fs, rfl, ha, hsp⟩ := h
  obtain ⟨f, fd, ok, hs, hf, _, hb⟩ := c.ex
  obtain ⟨od, J⟩ := inst_of I ha
  obtain ⟨m, hF⟩ := I.fr
  cases ry
  refine PySem.W.notIn_K hF I.ok.mod.kin J hs hf ?_
  refine wpAny_mono (call_at (sub_self hr) ok hb I (vs := [.ref a, x]) (.cons rfl (.cons rx .nil)) hsp (fun e s' z => z.elim)) (fun u s' hu => ?_) (fun _ _ z => z)
  obtain ⟨v, H', I', rv, b, rfl, hq⟩ := hu
  cases rv
  refine truth_bl ⟨.bl (!b), H', I', rfl, ?_⟩
  rw [show (b != true) = !b by cases b <;> rfl] at hq
  exact hq
end
end Ow
/-! Own classes: o[i], o op x, loops over o. -/
namespace Ow
open PySem PySem.Spec PyProof.Rows L2 Bx TL Dx Zx ItX
/-! ### o[i] -/
section
variable {X : Cx} {C : Addr} {CXc : CXT} {k : Nat} {ps : List Str} {sp : Sp} {W : WX} {a b : Expr} {ta tb : TE} {pos : Pos}
def tSubO (C : Addr) (sp : Sp) (W : WX) (ta tb : TE) : TE := fun σ H Q => ta σ H fun x H1 => tb σ H1 fun y H2 => ∃ p dx fs, x = .ref p ∧ H2 p = some (.ins C dx fs) ∧ sp [.ref p, y] H2 Q (fun cls d H' => W cls d σ H')
theorem pe_subO (c : OwM X.prog X.w X.K X.mg X.base CXc C "__getitem__" k ps sp) (fi : ∀ f, PySem.W.findIn X.K (.ref C) "__getitem__" = some (some (.ref f)) → PySem.W.fnIn X.K f = true) (hr : Room (k + 1) X.A) (hx : ∀ σ, PassesAt CXc X σ (fun cls d H' => W cls d σ H')) (ha : PE X a ta) (hb : PE X b tb)
    (hs : ∀ v u, subscripted b true v u = runValue (.builtin "lifetime.subscript" ⟨[v, u], []⟩) := by intro _ _; rfl) : PE X (.Subscript a b pos) (tSubO C sp W ta tb) := by
  refine ⟨fun pins s σ H Q I h => ?_⟩
  refine Subscript_ (binT ha hb I (R := fun x y H2 => ∃ p dx fs, x = .ref p ∧ H2 p = some (.ins C dx fs) ∧ sp [.ref p, y] H2 Q (fun cls d H' => W cls d σ H')) h fun v u s2 x y H2 I2 rx ry q => ?_)
  obtain ⟨p, dx, fs, rfl, hp, hsp⟩ := q
  obtain ⟨f, fd, ok, hfi, hf, _, hbd⟩ := c.ex
  obtain ⟨od, J⟩ := inst_of I2 hp
  obtain ⟨m, hF⟩ := I2.fr
  cases rx
  refine PySem.W.sub_K hF I2.ok.mod.kin J hfi (fi f hfi) hf ?_ (hs _ _)
  exact call_at ((sub_self hr).in1) ok hbd I2 (vs := [.ref p, y]) (.cons rfl (.cons ry .nil)) hsp (fun e s' z => hx σ pins H2 s2 e s' I2 z)
end
/-! ### o op x, x of a built-in type -/
/-- what the written part says of an operator of C with a second operand of the built-in type T -/
structure BinF (K : PySem.W.Frag) (C : Addr) (op : Operator) (T : String) : Prop where
  first : PySem.W.selfFirst K C = true
  refl : ∃ rc, PySem.W.findIn K (.ref C) (dunderR op.info.2) = some rc ∧ (rc = none ∨ ∃ g : Addr, rc = some (.ref g))
  t1 : ∃ fo, PySem.W.findIn K (.type T) (PySem.dunder op.info.2) = some fo
  t2 : ∃ ro, PySem.W.findIn K (.type T) (dunderR op.info.2) = some ro
  sub : PySem.W.subIn K (.type T) (.ref C) = some false
/-- the type of a value, looked at -/
def LkT (M : Model) (h : Heap) (v : Value) (T : String) : Prop := PySem.W.Looks M h (typeOf v) (.type T)
theorem bin_looks {prog : Program} {w : World} {A : Around} {E : Value → Shared → Prop} {s : Shared} {K : PySem.W.Frag} {x C f : Addr} {ox : Obj} {od : Option Obj} {T : String} {op : Operator} {b : Value} {Q : Value → Shared → Prop}
    (X : K.In s.heap) (I : PySem.W.InstAt s.heap x ox C od) (B : BinF K C op T) (hb : LkT (model prog w) s.heap b T) (hs : PySem.W.findIn K (.ref C) (PySem.dunder op.info.2) = some (some (.ref f))) (hf : PySem.W.isFn K (.ref f) = true)
    (h : wpAny (model prog w) A (call (.ref f) [.ref x, b]) (PySem.W.CmpBack Q) E s) : wpAny (model prog w) A (binaryOp op (.ref x) b) Q E s := by
  obtain ⟨hc, ⟨rc, hrc, hrp⟩, ⟨fo, h1⟩, ⟨ro, h2⟩, hsub⟩ := B
  obtain ⟨cd, rest, hcd, hm⟩ := PySem.W.ksp_first hc
  cases hi : op.info with
  | mk sym nm =>
    rw [hi] at hs hrc h1 h2
    dsimp only at hs hrc h1 h2
    have called := PySem.W.ksp_try X I hs hf h
    have d1 : PySem.W.Looks (model prog w) s.heap (typeOf (.ref x)) (.ref C) := I.type
    have d3 : PySem.W.Looks (model prog w) s.heap (fillsNumberSlot (.ref C) nm) true := PySem.W.fills_K X hcd hm hs
    have d4 := PySem.W.ksp_fillsT (M := model prog w) X h1 h2
    have d5 : PySem.W.Looks (model prog w) s.heap (isSubtype (.type T) (.ref C)) false := PySem.W.looks_subIn X hsub
    have d6 : PySem.W.Looks (model prog w) s.heap (numberSlotInPython (.ref C) nm) true := PySem.W.ksp_inPy X hs hrc hrp
    have d7 : PySem.W.Looks (model prog w) s.heap (numberSlotInPython (.type T) nm) false := PySem.W.Looks.of_pure rfl
    have d8 : PySem.W.Looks (model prog w) s.heap (typeLookup (.type T) (dunderR nm)) ro := PySem.W.looks_findIn X h2
    unfold LkT at hb
    clear X I hs hf h
    obtain ⟨hp, g, dd, tt, os⟩ := s
    generalize ((fo.isSome && !isSeqSlot fo) || (ro.isSome && !isSeqSlot ro)) = right at d4
    have other : (Value.ref C == Value.type T) = false := by
      cases z : (Value.ref C == Value.type T) with
      | false => rfl
      | true => cases beq_iff_eq.mp z
    simp only [binaryOp, hi]
    refine wpAny_holding (wpAny_bind ?_)
    unfold binaryOp1
    refine wpAny_bind (d1.at (wpAny_bind ?_))
    refine hb.at (wpAny_bind (d3.at ?_))
    simp only [other, Bool.false_eq_true, if_false]
    cases right
    · ksp_lk
      refine wpAny_mono called (fun r s' z => ?_) fun _ _ e => e
      obtain ⟨v, rfl, z⟩ := z
      ksp_lk
      exact z
    · ksp_lk
      refine wpAny_mono called (fun r s' z => ?_) fun _ _ e => e
      obtain ⟨v, rfl, z⟩ := z
      ksp_lk
      exact z
end Ow
namespace Ow
open PySem PySem.Spec PyProof.Rows L2 Bx TL Dx Zx ItX
section
variable {X : Cx} {pins : List (Addr × Obj)} {σ : L2.St} {H : Hp} {s : Shared}
/-- the built-in types of second operands -/
inductive TyO (K : PySem.W.Frag) (H : Hp) : V → String → Prop
  | int (i : Int) : TyO K H (.int i) "int"
  | str (z : Str) : TyO K H (.str z) "str"
  | tup {p : Addr} {xs : List V} (h : SqT K H p xs) : TyO K H (.ref p) "tuple"
theorem lk_of {y : V} {v : Value} {T : String} (I : Inv X pins σ H s) (r : RelV y v) (t : TyO X.K H y T) : LkT (model X.prog X.w) s.heap v T := by
  cases t with
  | int i =>
    obtain ⟨u, rfl⟩ := r
    exact PySem.W.Looks.of_pure rfl
  | str z =>
    obtain ⟨u, rfl⟩ := r
    exact PySem.W.Looks.of_pure rfl
  | tup h =>
    cases r
    obtain ⟨its, rv, ht, _⟩ := I.tuple h
    obtain ⟨o, ho, hc, _⟩ := ht
    unfold LkT
    rw [← hc]
    exact (PySem.W.Looks.ld ho).andThen .now
theorem back_ep {Q : VK} {u : Value} {s' : Shared} (h : EP X pins σ Q u s') : PySem.W.CmpBack (EP X pins σ Q) u s' := by
  obtain ⟨v, H', I', r, q⟩ := h
  have h2 : EP X pins σ Q u s' := ⟨v, H', I', r, q⟩
  cases v with
  | non => cases r; exact h2
  | bl b => cases r; exact h2
  | int i => obtain ⟨t, rfl⟩ := r; exact h2
  | str z => obtain ⟨t, rfl⟩ := r; exact h2
  | byt b => obtain ⟨t, rfl⟩ := r; exact h2
  | flt b => obtain ⟨t, rfl⟩ := r; exact h2
  | ref a => cases r; exact h2
  | ty n => cases r; exact h2
end
section
variable {X : Cx} {C : Addr} {CXc : CXT} {k : Nat} {ps : List Str} {sp : Sp} {W : WX} {a b : Expr} {ta tb : TE} {pos : Pos} {op : Operator} {T m : String}
def tBinO (K : PySem.W.Frag) (C : Addr) (T : String) (sp : Sp) (W : WX) (ta tb : TE) : TE := fun σ H Q => ta σ H fun x H1 => tb σ H1 fun y H2 => ∃ p dx fs, x = .ref p ∧ H2 p = some (.ins C dx fs) ∧ TyO K H2 y T ∧ sp [.ref p, y] H2 Q (fun cls d H' => W cls d σ H')
theorem pe_binO (c : OwM X.prog X.w X.K X.mg X.base CXc C (PySem.dunder op.info.2) k ps sp) (B : BinF X.K C op T) (hr : Room k X.A) (hx : ∀ σ, PassesAt CXc X σ (fun cls d H' => W cls d σ H')) (ha : PE X a ta) (hb : PE X b tb) : PE X (.BinOp a op b pos) (tBinO X.K C T sp W ta tb) := by
  refine ⟨fun pins s σ H Q I h => ?_⟩
  refine wpAny_BinOp (binT ha hb I (R := fun x y H2 => ∃ p dx fs, x = .ref p ∧ H2 p = some (.ins C dx fs) ∧ TyO X.K H2 y T ∧ sp [.ref p, y] H2 Q (fun cls d H' => W cls d σ H')) h fun v u s2 x y H2 I2 rx ry q => ?_)
  obtain ⟨p, dx, fs, rfl, hp, ht, hsp⟩ := q
  obtain ⟨f, fd, ok, hfi, hf, _, hbd⟩ := c.ex
  obtain ⟨od, J⟩ := inst_of I2 hp
  cases rx
  refine bin_looks I2.kIn J B (lk_of I2 ry ht) hfi hf ?_
  refine wpAny_mono (call_at (sub_self hr) ok hbd I2 (vs := [.ref p, y]) (.cons rfl (.cons ry .nil)) hsp (fun e s' z => hx σ pins H2 s2 e s' I2 z)) (fun u s' z => back_ep z) fun _ _ z => z
end
/-! ### iter(t), t a tuple -/
def TiO (t it : Addr) : HO := .ext fun h => h.IsTupleIter it t 0
theorem tiO_ok {P : Program} {w : World} {H : Hp} {h : Heap} {t it : Addr} (e : h.IsTupleIter it t 0) : ObjOk P w H h it (TiO t it) := by
  obtain ⟨o, ho, hc, hd⟩ := id e
  exact ⟨e, ⟨o, ho⟩, fun h1 h2 z k => z.at fun o e => k _ e⟩
def rIterT (K : PySem.W.Frag) (n : Nat) : List V → Hp → VK → Prop := fun xs H Q => ∃ (t : Addr) (zs : List V), xs = [.ref t] ∧ SqT K H t zs ∧ ∀ it, H it = none → n ≤ it → Q (.ref it) (upd H it (TiO t it))
theorem call_iterT {X : Cx} : CallR X (.builtin "iter") (rIterT X.K X.s_0.heap.objs.size) := by
  intro pins s σ H xs us Q I r h
  obtain ⟨t, zs, rfl, hq, q⟩ := h
  cases r with
  | cons r1 r2 =>
    cases r2
    cases r1
    obtain ⟨its, rv, pl, hz⟩ := I.tuple hq
    refine Calls.call_function_entry (by decide +kernel) (by decide +kernel) PySem.W.kdk_entry_iter (PySem.W.kdk_args_iter _) ?_
    unfold Builtin.«iter»
    refine wpAny_bind (m := someArgs "iter" 1 2 _) (wpAny_of_eq (a := [Value.ref t]) (by first | rfl | kernel_rfl!) ?_)
    show wpAny _ _ (pyIter (.ref t) >>= _) _ _ _
    refine wpAny_bind (wpAny_pyIter_tuple pl ?_)
    refine wpAny_pure ⟨_, rfl, .ref s.heap.objs.size, _, I.laid (t' := s.toks) (fun b u e => Heap.get?_push_of_some _ e) (Nat.le_refl _) (tiO_ok ⟨_, Heap.get?_push_size _ rfl, rfl, rfl⟩), rfl, q _ (I.hok.fresh (Nat.le_refl _)) I.sz⟩
end Ow
namespace Ow
open PySem PySem.Spec PyProof.Rows L2 Bx TL Dx Zx ItX
/-- a def of the text, called at a state that one knows -/
theorem run_here {CX : CXT} {P : Program} {w : World} {K : PySem.W.Frag} {mg : Str → Option Value} {base : Heap} {k : Nat} {f : Addr} {nm qn : Str} {params : Arguments} {body : List Stmt} {scope : Scope} {dV kV doc pm cdv ct oc : Value} {an od : Option Addr} {osl : Array (Option Value)} {N ps : List Str}
    {A : Around} {outer : List Env} {s : Shared} {H : Hp} {args : Args} {us : List Value} {vs : List V} {Q : VK} {E : XK} (lk : K.lookup f = some ⟨oc, od, .func (PySem.W.fnOf nm qn params body scope dV kV doc pm an cdv ct), osl⟩) (cd : PySem.W.codeIn K cdv qn = true) (S : FnScope N ps scope) (room : Room (k + 1) A)
    (e0 : Env0 P w K mg base A outer s H) (hb : BindsTo s (PySem.W.fnOf nm qn params body scope dV kV doc pm an cdv ct) args (ps.zip us)) (rel : Vals vs us) (len : vs.length = ps.length)
    (reads : Room k (A.deeper (envOfC qn scope s.heap.objs.size f cdv)) → ∃ t, PSs (cxOf CX P w K mg base N qn scope f cdv A outer s H E) body t ∧ t { nx := fun _ H' => Q .non H', rt := Q } (start N vs) H) :
    codeAny (model P w) A (.call (.ref f) args) (CR CX outer P w H s Q E) s := by
  have kx : K.In s.heap := e0.mod.kin.keeps (fun p q z => (e0.bs p q z).1)
  have open_ : s.heap.NoLimit := e0.mod.nolimit.keeps (fun p q z => (e0.bs p q z).1)
  have kinds : ∀ y ∈ ps.zip us, scope.names.lookup y.1 = some .local ∨ (scope.names.lookup y.1 = some .cell ∧ ((cellsFrom (s.heap.objs.size + 1) scope.names []).lookup y.1).isSome = true) := by
    rintro ⟨one, val⟩ hy
    exact (S.par one (List.of_mem_zip hy).1).imp id (fun q => ⟨q, PySem.W.cellsFrom_some _ _ _ (.inl q)⟩)
  refine codeAny_call_function room.depth (kx _ _ lk) rfl S.co S.gen rfl (PySem.W.codeRec_of kx cd) ?_
  refine hb _ _ _ _ ?_
  refine wpAny_newFunctionEnv_cells S.kind kinds (fun env he s1 x => ?_)
  cases he
  refine ⟨open_.keeps x.toInCall.keep, codeAny_func ?_⟩
  obtain ⟨t, pt, ht⟩ := reads (room.deeper _)
  have J0 := inv_start (CX := CX) (E := E) S room.hd e0 len rel x
  refine wpAny_mono (pt.run [] s1 (start N vs) H _ J0 ht) ?_ (fun e s' z => z)
  intro fl s' back
  match fl, back with
  | .ret u, ⟨v, σ', H', J, rv, q⟩ => exact ⟨v, H', J.os, J.bare, J.base, J.hok, rv, q⟩
  | .next, ⟨σ', H', J, q⟩ => exact ⟨V.non, H', J.os, J.bare, J.base, J.hok, rfl, q⟩
  | .brk, ⟨_, _, _, q⟩ => exact q.elim
  | .cont, ⟨_, _, _, q⟩ => exact q.elim
/-! ### for x in o, where def __iter__(self): return iter(self.f) -/
structure ItM (P : Program) (w : World) (K : PySem.W.Frag) (mg : Str → Option Value) (base : Heap) (C : Addr) (f : Str) (k : Nat) : Prop where
  ex : ∃ fi : Addr, PySem.W.findIn K (.ref C) "__iter__" = some (some (.ref fi)) ∧ PySem.W.isFn K (.ref fi) = true ∧
    ∀ (A : Around) (outer : List Env) (s : Shared) (H : Hp) (E : XK) (p dx t : Addr) (fs : List (Str × V)) (zs : List V), Room k A → Env0 P w K mg base A outer s H → H p = some (.ins C dx fs) → fs.lookup f = some (.ref t) → SqT K H t zs →
      codeAny (model P w) A (.call (.ref fi) ⟨[.ref p], []⟩) (CR CX0 outer P w H s (fun v H' => ∃ it, v = .ref it ∧ H it = none ∧ s.heap.objs.size ≤ it ∧ H' = upd H it (TiO t it)) E) s
section
variable {X : Cx} {C : Addr}
def tIterO (K : PySem.W.Frag) (C : Addr) (f : Str) (te : TE) : TI := fun σ H R => te σ H fun x H1 => ∃ p dx fs t zs, x = .ref p ∧ H1 p = some (.ins C dx fs) ∧ fs.lookup f = some (.ref t) ∧ SqT K H1 t zs ∧ R (Itt K t) H1
theorem pi_iterO {tg l : Expr} {te : TE} {k : Nat} {f : Str} (c : ItM X.prog X.w X.K X.mg X.base C f k) (hr : Room k X.A) (he : PE X l te) : PI X tg l (tIterO X.K C f te) := by
  refine ⟨fun pins s σ H R I h => ?_⟩
  refine thn (he.run pins s σ H _ I h) fun v s1 ⟨x, H1, I1, r1, q1⟩ => ?_
  obtain ⟨p, dx, fs, t, zs, rfl, hp, hl, hz, hR⟩ := q1
  obtain ⟨fi, hfi, hf, go⟩ := c.ex
  obtain ⟨od, J⟩ := inst_of I1 hp
  obtain ⟨m, hF⟩ := I1.fr
  cases r1
  refine PySem.W.owit_iter hF I1.ok.mod.kin J hfi hf ?_
  refine wpAny_call (codeAny_mono (go X.A X.stack s1 H1 E0 p dx t fs zs hr I1.env0 hp hl hz) fun res s' back => ?_)
  match res, back with
  | .error e, back => exact back.elim
  | .ok .next, back => exact back.elim
  | .ok .brk, back => exact back.elim
  | .ok .cont, back => exact back.elim
  | .ok (.ret u), back =>
    obtain ⟨v, H2, I2, rv, it, rfl, n1, hy, rfl⟩ := I1.after back
    cases rv
    have e2 : upd H1 it (TiO t it) it = some (TiO t it) := upd_same
    have hit : s'.heap.IsTupleIter it t 0 := by
      have : ObjOk X.prog X.w (upd H1 it (TiO t it)) s'.heap it (.ext fun h => h.IsTupleIter it t 0) := I2.hok it _ e2
      exact this.1
    show wpAny _ _ (specialOf (.ref it) "__next__") _ _ _
    refine wpAny_specialOf (name := Str.ofString "__next__") hit.typeIs PySem.F.slot_tuple_iterator_next.lookup ?_
    have hn : X.s_0.heap.objs.size ≤ it := Nat.le_trans I1.sz hy
    have I3 := inv_drop I2 e2
    have fp := inv_fp I2 e2 hn
    rw [dropH_upd n1] at I3 fp
    refine ⟨it, [it], _, _, H1, rfl, I3, turn_tuple t it, hit, fun b hb => ?_, hR⟩
    rw [List.mem_singleton.mp hb]
    exact fp
end
end Ow
/-! Own classes: o + p of one class, k * o, -o; dict(t) of a tuple of pairs. -/
namespace Ow
open PySem PySem.Spec PyProof.Rows L2 Bx TL Dx Zx ItX
theorem bin_same {prog : Program} {w : World} {A : Around} {E : Value → Shared → Prop} {s : Shared} {K : PySem.W.Frag} {x y C f : Addr} {ox oy : Obj} {od oe : Option Obj} {op : Operator} {Q : Value → Shared → Prop}
    (X : K.In s.heap) (I : PySem.W.InstAt s.heap x ox C od) (J : PySem.W.InstAt s.heap y oy C oe) (first : PySem.W.selfFirst K C = true) (hs : PySem.W.findIn K (.ref C) (PySem.dunder op.info.2) = some (some (.ref f))) (hf : PySem.W.isFn K (.ref f) = true)
    (h : wpAny (model prog w) A (call (.ref f) [.ref x, .ref y]) (PySem.W.CmpBack Q) E s) : wpAny (model prog w) A (binaryOp op (.ref x) (.ref y)) Q E s := by
  obtain ⟨cd, rest, hcd, hm⟩ := PySem.W.ksp_first first
  cases hi : op.info with
  | mk sym nm =>
    rw [hi] at hs
    dsimp only at hs
    have called := PySem.W.ksp_try X I hs hf h
    have d1 : PySem.W.Looks (model prog w) s.heap (typeOf (.ref x)) (.ref C) := I.type
    have d2 : PySem.W.Looks (model prog w) s.heap (typeOf (.ref y)) (.ref C) := J.type
    have d3 : PySem.W.Looks (model prog w) s.heap (fillsNumberSlot (.ref C) nm) true := PySem.W.fills_K X hcd hm hs
    clear X I J hs hf h
    obtain ⟨hp, g, dd, tt, os⟩ := s
    have same : (Value.ref C == Value.ref C) = true := beq_self_eq_true _
    simp only [binaryOp, hi]
    refine wpAny_holding (wpAny_bind ?_)
    unfold binaryOp1
    refine wpAny_bind (d1.at (wpAny_bind ?_))
    refine d2.at (wpAny_bind (d3.at ?_))
    simp only [same, if_true]
    ksp_lk
    refine wpAny_mono called (fun r s' z => ?_) fun _ _ e => e
    obtain ⟨v, rfl, z⟩ := z
    ksp_lk
    exact z
section
variable {X : Cx} {C : Addr} {k : Nat} {ps : List Str} {sp : Sp} {op : Operator}
def rBinSame (C : Addr) (sp : Sp) : V → V → Hp → VK → Prop := fun x y H Q => ∃ p q dx dy fs gs, x = .ref p ∧ y = .ref q ∧ H p = some (.ins C dx fs) ∧ H q = some (.ins C dy gs) ∧ sp [.ref p, .ref q] H Q E0
theorem op_same (c : OwM X.prog X.w X.K X.mg X.base CX0 C (PySem.dunder op.info.2) k ps sp) (first : PySem.W.selfFirst X.K C = true) (hr : Room k X.A) : OpR X (binaryOp op) (rBinSame C sp) := by
  intro pins s σ H x y u v Q I rx ry h
  obtain ⟨p, q, dx, dy, fs, gs, rfl, rfl, hp, hq, hsp⟩ := h
  obtain ⟨f, fd, ok, hs, hf, _, hb⟩ := c.ex
  obtain ⟨od, J⟩ := inst_of I hp
  obtain ⟨oe, J2⟩ := inst_of I hq
  cases rx
  cases ry
  refine bin_same I.kIn J J2 first hs hf ?_
  refine wpAny_mono (call_at (sub_self hr) ok hb I (vs := [.ref p, .ref q]) (.cons rfl (.cons rfl .nil)) hsp (fun e s' z => z.elim)) (fun u s' z => back_ep z) fun _ _ z => z
/-- o op x -/
def rBinT (K : PySem.W.Frag) (C : Addr) (T : String) (sp : Sp) : V → V → Hp → VK → Prop := fun x y H Q => ∃ p dx fs, x = .ref p ∧ H p = some (.ins C dx fs) ∧ TyO K H y T ∧ sp [.ref p, y] H Q E0
theorem op_ownT {T : String} (c : OwM X.prog X.w X.K X.mg X.base CX0 C (PySem.dunder op.info.2) k ps sp) (B : BinF X.K C op T) (hr : Room k X.A) : OpR X (binaryOp op) (rBinT X.K C T sp) := by
  intro pins s σ H x y u v Q I rx ry h
  obtain ⟨p, dx, fs, rfl, hp, ht, hsp⟩ := h
  obtain ⟨f, fd, ok, hs, hf, _, hb⟩ := c.ex
  obtain ⟨od, J⟩ := inst_of I hp
  cases rx
  refine bin_looks I.kIn J B (lk_of I ry ht) hs hf ?_
  refine wpAny_mono (call_at (sub_self hr) ok hb I (vs := [.ref p, y]) (.cons rfl (.cons ry .nil)) hsp (fun e s' z => z.elim)) (fun u s' z => back_ep z) fun _ _ z => z
/-- -o -/
theorem un_negO (c : OwM X.prog X.w X.K X.mg X.base CX0 C "__neg__" k ps sp) (hr : Room k X.A) : UnR X (unaryOp .USub) (fun x H Q => ∃ p dx fs, x = .ref p ∧ H p = some (.ins C dx fs) ∧ sp [.ref p] H Q E0) := by
  intro pins s σ H x u Q I rx h
  obtain ⟨p, dx, fs, rfl, hp, hsp⟩ := h
  obtain ⟨f, fd, ok, hs, hf, _, hb⟩ := c.ex
  obtain ⟨od, J⟩ := inst_of I hp
  obtain ⟨m, hF⟩ := I.fr
  cases rx
  refine PySem.W.ksp_neg hF I.ok.mod.kin J hs hf ?_
  exact call_at (sub_self hr) ok hb I (vs := [.ref p]) (.cons rfl .nil) hsp (fun e s' z => z.elim)
/-- o[i] -/
theorem pe_subO0 {a b : Expr} {ta tb : TE} {pos : Pos} (c : OwM X.prog X.w X.K X.mg X.base CX0 C "__getitem__" k ps sp) (fi : ∀ f, PySem.W.findIn X.K (.ref C) "__getitem__" = some (some (.ref f)) → PySem.W.fnIn X.K f = true) (hr : Room (k + 1) X.A) (ha : PE X a ta) (hb : PE X b tb)
    (hs : ∀ v u, subscripted b true v u = runValue (.builtin "lifetime.subscript" ⟨[v, u], []⟩) := by intro _ _; rfl) : PE X (.Subscript a b pos) (tSubO C sp (fun _ _ _ _ => False) ta tb) :=
  pe_subO c fi hr (fun _ _ _ _ _ _ _ h => h.elim) ha hb hs
end
end Ow
/-! tuple(xs) without a dict of its own; dict(t) of such a tuple of pairs; k * o. -/
namespace Ow
open PySem PySem.Spec PyProof.Rows L2 Bx TL Dx Zx ItX
/-- a tuple without a dict of its own -/
def PlT (H : Hp) (a : Addr) (xs : List V) : Prop := ∃ o, H a = some (.frz o (.tup xs)) ∧ o.dict = none
theorem PlT.sq {K : PySem.W.Frag} {H : Hp} {a : Addr} {xs : List V} (h : PlT H a xs) : SqT K H a xs := .inl (.inr ⟨_, h.choose_spec.1⟩)
theorem PlT.same {H H' : Hp} {a : Addr} {xs : List V} (s : Same H H') (h : PlT H a xs) : PlT H' a xs := ⟨_, s _ _ h.choose_spec.1, h.choose_spec.2⟩
section
variable {X : Cx}
def rTupF (K : PySem.W.Frag) : List V → Hp → VK → Prop := fun xs H Q => ∃ p ys, xs = [.ref p] ∧ SqL K H p ys ∧ ∀ l o, H l = none → o.dict = none → Q (.ref l) (upd H l (.frz o (.tup ys)))
theorem call_tupleF : CallR X (.type "tuple") (rTupF X.K) := by
  intro pins s σ H xs us Q I r h
  obtain ⟨p, ys, rfl, hq, q⟩ := h
  obtain ⟨u, rfl, rx⟩ := vals1 r
  cases rx
  obtain ⟨its, r', pl, hz⟩ := I.list hq
  have hlen := r'.length
  refine call_tuple_list pl.isList (fun h' kp => ?_) (by simp only [List.size_toArray] <;> omega)
  have I1 : Inv X pins σ H { s with heap := h' } := I.kept (t' := s.toks) kp
  let o : Obj := { cls := .type "tuple", data := .seq its.toArray }
  have I2 : Inv X pins σ (upd H h'.objs.size (.frz o (.tup ys))) { s with heap := h'.push o } :=
    I1.laid (t' := s.toks) (fun b o e => Heap.get?_push_of_some _ e) (Nat.le_refl _) (show ObjOk X.prog X.w _ _ _ (.frz o (.tup ys)) from ⟨Heap.get?_push_size _ rfl, hz, its, r', IsTup.new _ _⟩)
  exact ⟨.ref h'.objs.size, _, I2, rfl, q _ o (I1.hok.fresh (Nat.le_refl _)) rfl⟩
def rDictT (K : PySem.W.Frag) : List V → Hp → VK → Prop := fun xs H Q => ∃ (a : Addr) (ps : List Addr) (kvs : List (Key × V)), xs = [.ref a] ∧ PlT H a (ps.map V.ref) ∧ Paired (fun p kv => SqT K H p [kV kv.1, kv.2]) ps kvs ∧
    ∀ p, H p = none → Q (.ref p) (upd H p (.dK (mergeK [] kvs)))
theorem call_dictT (hcalm : X.calm = true) : CallR X (.type "dict") (rDictT X.K) := by
  intro pins s σ H xs us Q I r q
  obtain ⟨a, ps, kvs, rfl, ⟨o, ha, hod⟩, hp, q⟩ := q
  obtain ⟨u, rfl, rx⟩ := vals1 r
  cases rx
  obtain ⟨hg, hz, its, rv, o2, ho2, hc, n, hdat⟩ : ObjOk X.prog X.w H s.heap a (.frz o (.tup (ps.map V.ref))) := I.hok a _ ha
  rw [hg] at ho2
  obtain rfl := Option.some.inj ho2
  have ei := refs_at rv
  subst ei
  obtain ⟨prs, rel, hl, hpr⟩ := pairs_of I hp
  rw [List.length_map] at hz
  have at_ : ∀ (j : Nat) (q : Key × Value), prs[j]? = some q → ∃ u : Value, IsTup s.heap (ps.getD j 0) #[u, q.2] ∧ ps[j]? = some (ps.getD j 0) ∧ keyIs q.1 u = true := fun j q e => by
    obtain ⟨b, u, e1, e2, e3⟩ := hpr j q e
    have e4 : ps.getD j 0 = b := by rw [List.getD_eq_getElem?_getD, e1]; rfl
    rw [e4]
    exact ⟨u, e2, e1, e3⟩
  classical
  let key : Nat → Value := fun j => match prs[j]? with
    | some q => (if h : ∃ u : Value, IsTup s.heap (ps.getD j 0) #[u, q.2] ∧ keyIs q.1 u = true then h.choose else .none)
    | none => .none
  have keyAt : ∀ (j : Nat) (q : Key × Value), prs[j]? = some q → IsTup s.heap (ps.getD j 0) #[key j, q.2] ∧ keyIs q.1 (key j) = true := fun j q e => by
    obtain ⟨u, h1, _, h3⟩ := at_ j q e
    have hh : ∃ u : Value, IsTup s.heap (ps.getD j 0) #[u, q.2] ∧ keyIs q.1 u = true := ⟨u, h1, h3⟩
    have ek : key j = hh.choose := by
      show (match prs[j]? with | some q => _ | none => _) = _
      rw [e]
      exact dif_pos hh
    rw [ek]
    exact hh.choose_spec
  let vps : List (Value × Value) := (List.range prs.length).map fun j => (key j, match prs[j]? with | some q => q.2 | none => .none)
  have vlen : vps.length = prs.length := by simp [vps]
  have vat : ∀ j k v, vps[j]? = some (k, v) → ∃ q : Key × Value, prs[j]? = some q ∧ k = key j ∧ v = q.2 := fun j k v e => by
    have hj : j < prs.length := by
      have := (List.getElem?_eq_some_iff.mp e).1
      omega
    have e1 : prs[j]? = some prs[j] := List.getElem?_eq_getElem hj
    refine ⟨prs[j], e1, ?_⟩
    have e2 : vps[j]? = some (key j, prs[j].2) := by
      simp only [vps, List.getElem?_map, List.getElem?_range hj, Option.map_some, e1]
    rw [e2] at e
    cases e
    exact ⟨rfl, rfl⟩
  have P := PySem.PairArg.tuple (prog := X.prog) (w := X.w) a (ps.map Value.ref).toArray (fun j => ps.getD j 0) vps
  refine PySem.call_dict_pairs (knd := mixKind X.prog X.w) (kvs := prs) P (I.ok.hd hcalm) ⟨⟨o, n, hg, hc, hod, hdat⟩, by rw [List.size_toArray, List.length_map, vlen, hl], fun j k v e => ?_⟩ ⟨vlen.symm, fun i k v e => ?_⟩ (by rw [vlen, hl]; exact hz) fun h' tk hd' kp => ?_
  · obtain ⟨q, e1, rfl, rfl⟩ := vat j k v e
    obtain ⟨u, _, e3, _⟩ := at_ j q e1
    refine ⟨?_, .inl (keyAt j q e1).1⟩
    rw [List.getElem?_toArray, List.getElem?_map, e3]
    rfl
  · obtain ⟨q, e1, rfl, rfl⟩ := vat i k v e
    exact ⟨q.1, e1, (keyAt i q e1).2⟩
  · have hm : (s.heap.objs.size == sysModules) = false := beq_eq_false_iff_ne.mpr (Nat.ne_of_gt I.big)
    have hlen : (mergeK [] kvs).length ≤ sizeLine := by
      refine Nat.le_trans (length_mergeK kvs []) ?_
      rw [List.length_nil, Nat.zero_add, rel.length, hl]
      exact hz
    exact ⟨.ref s.heap.objs.size, upd H s.heap.objs.size (.dK (mergeK [] kvs)), I.laid (t' := tk) (fun b o e => kp b o (fun h => nomatch h) e) (Nat.le_refl _) (show ObjOk X.prog X.w _ _ _ (.dK (mergeK [] kvs)) from ⟨hlen, hm, merged [] prs, KV.merge rel .nil, hd'⟩), rfl, q _ (I.hok.fresh (Nat.le_refl _))⟩
end
/-! ### k * o -/
theorem int_mul_ins (a : Int) (t : Tok) (l C dx : Addr) :
    Meets (Builtin.«int.__mul__» ⟨[.int a t, .ref l], []⟩) (fun _ R s => s.heap.get? l = some (PySem.W.instObj C dx) ∧ R (.ok (.ret Value.notImplemented)) s) :=
  .of_wp fun prog w A R s h => by obtain ⟨hp, g, d, tk, os⟩ := s; obtain ⟨hl, h⟩ := h; wp_walk; exact ⟨_, rfl, h⟩
theorem int_declines {prog : Program} {w : World} {A : Around} {E : Value → Shared → Prop} {s : Shared} {k : Int} {t : Tok} {x C dx : Addr} {Q : Value → Shared → Prop} (hg : s.heap.get? x = some (PySem.W.instObj C dx)) (q : Q .notImplemented s) :
    wpAny (model prog w) A (call (.builtin "int.__mul__") [.int k t, .ref x]) Q E s :=
  call_meets F.slot_int_mul (typeIs_int s k t) F.entry_int_mul (F.args_int_mul_2 _ _) (int_mul_ins k t x C dx) ⟨hg, q⟩
theorem try_declines {prog : Program} {w : World} {A : Around} {E : Value → Shared → Prop} {s : Shared} {k : Int} {t : Tok} {x C dx : Addr} {Q : Option Value → Shared → Prop} (hg : s.heap.get? x = some (PySem.W.instObj C dx)) (q : Q none s) :
    wpAny (model prog w) A (tryMethod (.int k t) (dunder "mul") (.ref x)) Q E s := by
  refine wpAny_tryMethod_declines (T := "int") (name := dunder "mul") (id := "int.__mul__") ?_ ?_ ?_
  · exact typeIs_int s k t
  · exact F.slot_int_mul
  exact int_declines hg ⟨rfl, q⟩
theorem bin_right {prog : Program} {w : World} {A : Around} {E : Value → Shared → Prop} {s : Shared} {K : PySem.W.Frag} {x C f dx : Addr} {od : Option Obj} {k : Int} {t : Tok} {Q : Value → Shared → Prop}
    (X : K.In s.heap) (I : PySem.W.InstAt s.heap x (PySem.W.instObj C dx) C od) (first : PySem.W.selfFirst K C = true) (hl : PySem.W.findIn K (.ref C) "__mul__" = some (some (.ref f))) (hs : ∃ g : Addr, PySem.W.findIn K (.ref C) "__rmul__" = some (some (.ref g)) ∧ PySem.W.isFn K (.ref g) = true ∧
      wpAny (model prog w) A (call (.ref g) [.ref x, .int k t]) (PySem.W.CmpBack Q) E s)
    (hsub : PySem.W.subIn K (.ref C) (.type "int") = some false) : wpAny (model prog w) A (binaryOp .Mult (.int k t) (.ref x)) Q E s := by
  obtain ⟨g, hr, hf, h⟩ := hs
  obtain ⟨cd, rest, hcd, hm⟩ := PySem.W.ksp_first first
  have hg : s.heap.get? x = some (PySem.W.instObj C dx) := by
    exact I.at_
  have called := PySem.W.ksp_try X I hr hf h
  have d1 : PySem.W.Looks (model prog w) s.heap (typeOf (.ref x)) (.ref C) := I.type
  have d3 : PySem.W.Looks (model prog w) s.heap (fillsNumberSlot (.ref C) "mul") true := PySem.W.fills_K X hcd hm hl
  have d5 : PySem.W.Looks (model prog w) s.heap (isSubtype (.ref C) (.type "int")) false := PySem.W.looks_subIn X hsub
  clear X I hl hr hf h
  simp only [binaryOp]
  refine wpAny_holding (wpAny_bind ?_)
  show wpAny _ _ (binaryOp1 "mul" _ _) _ _ _
  simp only [binaryOp1]
  refine wpAny_bind (wpAny_typeOf (typeIs_int s k t) (wpAny_bind (d1.at (wpAny_bind (wpAny_of_eq F.fills_int_mul ?_)))))
  have hne : (Value.type "int" == Value.ref C) = false := Bool.eq_false_iff.mpr fun q => by cases beq_iff_eq.mp q
  simp only [hne, Bool.false_eq_true, if_false]
  refine wpAny_bind (d3.at ?_)
  simp only [Bool.and_self, if_true]
  refine wpAny_bind (d5.at ?_)
  have hpy : numberSlotInPython (.type "int") "mul" = pure false := rfl
  simp only [Bool.false_eq_true, if_false, pure_bind, Bool.not_false, Bool.and_self, if_true, hpy]
  refine wpAny_bind (try_declines hg ?_)
  refine wpAny_bind (wpAny_mono called (fun r s' z => ?_) fun _ _ e => e)
  obtain ⟨v, rfl, z⟩ := z
  exact wpAny_bind (wpAny_rule (wpAny_pure (wpAny_pure z)))
section
variable {X : Cx} {C : Addr} {k : Nat} {ps : List Str} {sp : Sp}
/-- k * o -/
def rMulR (C : Addr) (sp : Sp) : V → V → Hp → VK → Prop := fun x y H Q => ∃ p dx fs n, x = .int n ∧ y = .ref p ∧ H p = some (.ins C dx fs) ∧ sp [.ref p, .int n] H Q E0
theorem op_mulR (c : OwM X.prog X.w X.K X.mg X.base CX0 C "__rmul__" k ps sp) (first : PySem.W.selfFirst X.K C = true) (hl : ∃ f : Addr, PySem.W.findIn X.K (.ref C) "__mul__" = some (some (.ref f))) (hsub : PySem.W.subIn X.K (.ref C) (.type "int") = some false) (hr : Room k X.A) : OpR X (binaryOp .Mult) (rMulR C sp) := by
  intro pins s σ H x y u v Q I rx ry h
  obtain ⟨p, dx, fs, n, rfl, rfl, hp, hsp⟩ := h
  obtain ⟨f, fd, ok, hs, hf, _, hb⟩ := c.ex
  obtain ⟨fl, hfl⟩ := hl
  obtain ⟨od, J⟩ := inst_of I hp
  obtain ⟨t, rfl⟩ := id rx
  cases ry
  refine bin_right I.kIn J first hfl ⟨f, hs, hf, ?_⟩ hsub
  refine wpAny_mono (call_at (sub_self hr) ok hb I (vs := [.ref p, .int n]) (.cons rfl (.cons rx .nil)) hsp (fun e s' z => z.elim)) (fun u s' z => back_ep z) fun _ _ z => z
end
end Ow
namespace Ow
open PySem PySem.Spec PyProof.Rows L2 Bx TL Dx Zx ItX
/-! ### calls with defaults, new instances, methods, by their promises -/
structure CalD (P : Program) (w : World) (K : PySem.W.Frag) (mg : Str → Option Value) (base : Heap) (x : Str) (k : Nat) (ps : List Str) (sp : Sp) (dvs : List V) : Prop where
  ex : ∃ (f : Addr) (fd : FuncData) (ds : List Value), FnOk P w K mg base CX0 k f fd ps sp ∧ mg x = some (.ref f) ∧ PySem.W.keepIn K (.ref f) = true ∧ Binds K fd ps ds ∧ Vals dvs ds
structure MakC (P : Program) (w : World) (K : PySem.W.Frag) (mg : Str → Option Value) (base : Heap) (x : Str) (C : Addr) (k : Nat) (ps : List Str) (sp : Sp) (dvs : List V) : Prop where
  ex : ∃ (f : Addr) (fd : FuncData) (ds : List Value), Mk K C f ∧ FnOk P w K mg base CX0 k f fd ps sp ∧ mg x = some (.ref C) ∧ Binds K fd ps ds ∧ Vals dvs ds
structure MthC (P : Program) (w : World) (K : PySem.W.Frag) (mg : Str → Option Value) (base : Heap) (C : Addr) (m : Str) (k : Nat) (ps : List Str) (sp : Sp) : Prop where
  ex : ∃ (f : Addr) (fd : FuncData), Cls K C ∧ Meth K C m f ∧ FnOk P w K mg base CX0 k f fd ps sp ∧ Binds K fd ps []
section
variable {X : Cx} {x : Str} {k : Nat} {ps : List Str} {sp : Sp} {e : Expr} {es : List Expr} {t : TA} {p pos : Pos} {dvs : List V} {C : Addr}
theorem pe_calD (c : CalD X.prog X.w X.K X.mg X.base x k ps sp dvs) (hr : Room k X.A) (ha : PA X (e :: es) t) (hg : Gl X x := by rfl) (hdb : (x == ("__debug__" : Str)) = false := by decide)
    (he : starEach (e :: es) X.env = (false, eval e X.env) :: starEach es X.env := by rfl) (hpl : (backTo pos (starEach es X.env)).any (·.1) = false := by rfl) : PE X (.Call (.Name x p) (e :: es) [] pos) (tCall sp dvs E0 t) := by
  obtain ⟨f, fd, ds, ok, g, kp, b, r⟩ := c.ex
  exact pe_call (E := E0) ok hr hg g kp b r pass0 ha hdb he hpl (p := p)
theorem pe_mak (c : MakC X.prog X.w X.K X.mg X.base x C k ps sp []) (hr : Room (k + 1) X.A) (ha : PA X (e :: es) t) (hg : Gl X x := by rfl) (hdb : (x == ("__debug__" : Str)) = false := by decide)
    (he : starEach (e :: es) X.env = (false, eval e X.env) :: starEach es X.env := by rfl) (hpl : (backTo pos (starEach es X.env)).any (·.1) = false := by rfl) : PE X (.Call (.Name x p) (e :: es) [] pos) (tMake C sp [] E0 t) := by
  obtain ⟨f, fd, ds, M, ok, g, b, r⟩ := c.ex
  exact pe_make (E := E0) M ok hr hg g b r pass0 ha hdb he hpl (p := p)
theorem pe_mak0 (c : MakC X.prog X.w X.K X.mg X.base x C k ps sp dvs) (hr : Room (k + 1) X.A) (hg : Gl X x := by rfl) (hdb : (x == ("__debug__" : Str)) = false := by decide) : PE X (.Call (.Name x p) [] [] pos) (tMake C sp dvs E0 tNil) := by
  obtain ⟨f, fd, ds, M, ok, g, b, r⟩ := c.ex
  exact pe_make0 (E := E0) M ok hr hg g b r pass0 hdb (p := p)
theorem pe_mth {m : Str} {o : Expr} {to : TE} {apos : Pos} {pl : Sem Bool} (c : MthC X.prog X.w X.K X.mg X.base C m k ps sp) (hr : Room k X.A) (ho : PE X o to) (ha : PA X (e :: es) t)
    (hst : starEach (e :: es) X.env = (false, eval e X.env) :: starEach es X.env := by rfl) (hpl : (backTo pos (starEach es X.env)).any (·.1) = false := by rfl)
    (ht : eval (.Call (.Attribute o m apos) (e :: es) [] pos) X.env = (do
      let ov ← eval o X.env
      standAt apos.atName
      let (f, first) ← holding [ov] (getMethod ov m pl)
      callWith pos f first (backTo pos (starEach (e :: es) X.env)) (backToKw pos (keywordEach [] X.env))) := by rfl) : PE X (.Call (.Attribute o m apos) (e :: es) [] pos) (tMeth C m sp [] E0 to t) := by
  obtain ⟨f, fd, cl, mt, ok, b⟩ := c.ex
  exact pe_meth (E := E0) ho cl mt ok hr b .nil pass0 ha hst hpl ht
end
/-! ### // by any divisor -/
def CDivZ (_ j : Int) : Prop := j ≠ 0 ∧ j.natAbs.log2 < 9000
theorem op_fdivZ {X : Cx} : OpR X (binaryOp .FloorDiv) (rI CDivZ fun i j => .int (i.fdiv j)) := opI fun i j _ _ _ _ _ hc q => floordiv_int hc.1 q (.inl (PyProof.noPylong_of_log2 hc.2))
theorem wide_divZ {i j : Int} {b : Nat} (h : j ≠ 0) (hb : j.natAbs < 2 ^ b) (h0 : 0 < b) (h9 : b ≤ 9000) : CDivZ i j := ⟨h, Nat.lt_of_lt_of_le (PySem.Flt.log2_lt_of h0 hb) h9⟩
end Ow
/-! Calls that may raise, with a wish that knows the slots: C(..), o.m(..), f(..); C held by a local; list.count of texts. -/
namespace Px
open PySem PySem.Spec PyProof.Rows L2 Bx TL Dx Zx Ow
theorem passN {X : Cx} : Passes (L2.CX X.prog X.w) X E0 := fun _ _ _ _ _ _ _ ⟨_, _, _, _, _, _, _, _, _, _, _, _, z⟩ => z.elim
/-- `C(..)`, whose `__init__` may raise -/
structure MakX (P : Program) (w : World) (K : PySem.W.Frag) (mg : Str → Option Value) (base : Heap) (x : Str) (C : Addr) (k : Nat) (ps : List Str) (sp : Sp) : Prop where
  ex : ∃ (f : Addr) (fd : FuncData), Mk K C f ∧ FnOk P w K mg base (L2.CX P w) k f fd ps sp ∧ mg x = some (.ref C) ∧ Binds K fd ps []
structure MthX (P : Program) (w : World) (K : PySem.W.Frag) (mg : Str → Option Value) (base : Heap) (C : Addr) (m : Str) (k : Nat) (ps : List Str) (sp : Sp) : Prop where
  ex : ∃ (f : Addr) (fd : FuncData), Cls K C ∧ Meth K C m f ∧ FnOk P w K mg base (L2.CX P w) k f fd ps sp ∧ Binds K fd ps []
structure CalE (P : Program) (w : World) (K : PySem.W.Frag) (mg : Str → Option Value) (base : Heap) (x : Str) (k : Nat) (ps : List Str) (sp : Sp) : Prop where
  ex : ∃ (f : Addr) (fd : FuncData), FnOk P w K mg base (L2.CX P w) k f fd ps sp ∧ mg x = some (.ref f) ∧ PySem.W.keepIn K (.ref f) = true ∧ Binds K fd ps []
section
variable {X : Cx} {x : Str} {k : Nat} {ps : List Str} {sp : Sp} {e : Expr} {es : List Expr} {t : TA} {p pos : Pos} {C : Addr} {W : WX}
theorem run_makS {pins : List (Addr × Obj)} {σ : L2.St} {H : Hp} {s : Shared} {Q : VK} {E : XK} {us : List Value} {vs : List V} {f : Addr} {fd : FuncData} (M : Mk X.K C f) (F : FnOk X.prog X.w X.K X.mg X.base (L2.CX X.prog X.w) k f fd ps sp) (hr : Room (k + 1) X.A) (b : Binds X.K fd ps [])
    (hx : PassesAt (L2.CX X.prog X.w) X σ E) (I : Inv X pins σ H s) (rv : Vals vs us) (h : ∀ y dy, H y = none → H dy = none → dy ≠ y → sp (.ref y :: vs) (upd (upd H dy (.own y)) y (.ins C dy [])) (fun v G => v = .non ∧ Q (.ref y) G) E) :
    wpAny (model X.prog X.w) X.A (call (.ref C) us) (EP X pins σ Q) X.xe s := by
  have n1 := I.hok.fresh (Nat.le_refl s.heap.objs.size)
  have n2 := I.hok.fresh (Nat.le_succ s.heap.objs.size)
  have g := h _ _ n2 n1 (Nat.ne_of_lt (Nat.lt_succ_self s.heap.objs.size))
  have J := Inv.made (C := C) I
  have rs : Vals (V.ref (s.heap.objs.size + 1) :: vs) (Value.ref (s.heap.objs.size + 1) :: us) := .cons rfl rv
  have ln : (Value.ref (s.heap.objs.size + 1) :: us).length = ps.length := rs.length.symm.trans (F.len _ _ _ _ g)
  have bd := b _ (Value.ref (s.heap.objs.size + 1) :: us) J.kIn (by rw [List.append_nil]; exact ln)
  rw [List.append_nil] at bd
  refine wpAny_call (make_map (f := f) I.kIn M.makes M.init (beq_iff_eq.mp M.fn) (codeAny_mono (F.run _ X.stack _ _ _ _ _ _ E (hr.make C us []) (J.env0.make C us []) bd rs g) fun res s' back => ?_))
  match res, back with
  | .error er, back => exact hx pins _ _ er s' J back
  | .ok (.ret u), back =>
    obtain ⟨v, G, J2, r2, e2, q⟩ := J.after back
    subst e2
    exact ⟨r2, .ref (s.heap.objs.size + 1), G, J2, rfl, q⟩
  | .ok .next, back => exact back.elim
  | .ok .brk, back => exact back.elim
  | .ok .cont, back => exact back.elim
def tMakX (C : Addr) (sp : Sp) (W : WX) (t : TA) : TE := fun σ H Q => t σ H fun vs H1 => ∀ y dy, H1 y = none → H1 dy = none → dy ≠ y → sp (.ref y :: vs) (upd (upd H1 dy (.own y)) y (.ins C dy [])) (fun v G => v = .non ∧ Q (.ref y) G) (WE W σ)
theorem pe_makX (c : MakX X.prog X.w X.K X.mg X.base x C k ps sp) (tk : Takes X W) (hr : Room (k + 1) X.A) (ha : PA X (e :: es) t) (hg : Gl X x := by rfl) (hdb : (x == ("__debug__" : Str)) = false := by decide)
    (he : starEach (e :: es) X.env = (false, eval e X.env) :: starEach es X.env := by rfl) (hpl : (backTo pos (starEach es X.env)).any (·.1) = false := by rfl) : PE X (.Call (.Name x p) (e :: es) [] pos) (tMakX C sp W t) := by
  obtain ⟨f, fd, M, ok, g, b⟩ := c.ex
  refine ⟨fun pins s σ H Q I h => wpAny_Call_Name_kw (ld_glob I hg g ?_ hdb)⟩
  exact PySem.W.callWith_K (h₀ := X.base) I.ok.mod.kin M.kp (thn (ha.run pos pins s σ H _ I h) fun us s1 ⟨vs, H1, I1, rv, q⟩ => ⟨I1.kIn, run_makS M ok hr b (passAt tk σ) I1 rv q⟩) he hpl
theorem pe_makN (c : MakX X.prog X.w X.K X.mg X.base x C k ps sp) (hr : Room (k + 1) X.A) (ha : PA X (e :: es) t) (hg : Gl X x := by rfl) (hdb : (x == ("__debug__" : Str)) = false := by decide)
    (he : starEach (e :: es) X.env = (false, eval e X.env) :: starEach es X.env := by rfl) (hpl : (backTo pos (starEach es X.env)).any (·.1) = false := by rfl) : PE X (.Call (.Name x p) (e :: es) [] pos) (tMake C sp [] E0 t) := by
  obtain ⟨f, fd, M, ok, g, b⟩ := c.ex
  exact pe_make (E := E0) M ok hr hg g b .nil passN ha hdb he hpl (p := p)
/-- the class in a slot: `cls(..)` -/
def tMakL (i : Nat) (C : Addr) (sp : Sp) (t : TA) : TE := fun σ H Q => σ[i]? = some (some (.ref C)) ∧ tMake C sp [] E0 t σ H Q
theorem pe_makL {i : Nat} {y : Str} (c : MakX X.prog X.w X.K X.mg X.base x C k ps sp) (hr : Room (k + 1) X.A) (hN : X.N[i]? = some y) (hv : Vis X.env.scope y) (ha : PA X (e :: es) t) (hdb : (y == ("__debug__" : Str)) = false := by decide) (hcd : (y == ("__classdict__" : Str)) = false := by decide)
    (he : starEach (e :: es) X.env = (false, eval e X.env) :: starEach es X.env := by rfl) (hpl : (backTo pos (starEach es X.env)).any (·.1) = false := by rfl) : PE X (.Call (.Name y p) (e :: es) [] pos) (tMakL i C sp t) := by
  obtain ⟨f, fd, M, ok, g, b⟩ := c.ex
  refine ⟨fun pins s σ H Q I h => ?_⟩
  obtain ⟨h1, h2⟩ := h
  refine wpAny_Call_Name_kw (thn ((pe_var (pos := p) hN hv hdb hcd).run pins s σ H (fun v G => v = .ref C ∧ G = H) I ⟨.ref C, h1, rfl, rfl⟩) fun u s1 ⟨v, G, I1, r1, q1⟩ => ?_)
  obtain ⟨rfl, rfl⟩ := q1
  cases r1
  exact PySem.W.callWith_K (h₀ := X.base) I.ok.mod.kin M.kp (thn (ha.run pos pins s1 σ _ _ I1 h2) fun us s2 ⟨vs, H2, I2, rv, q⟩ => ⟨I2.kIn, run_make M ok hr b .nil passN I2 rv q⟩) he hpl
def tMthX (C : Addr) (m : Str) (sp : Sp) (W : WX) (ta : TE) (t : TA) : TE := fun σ H Q => ta σ H fun v H1 => ∃ a dx fs, v = .ref a ∧ H1 a = some (.ins C dx fs) ∧ fs.lookup m = none ∧ t σ H1 fun vs H2 => sp (v :: vs) H2 Q (WE W σ)
theorem pe_mthX {m : Str} {o : Expr} {to : TE} {apos : Pos} {pl : Sem Bool} (c : MthX X.prog X.w X.K X.mg X.base C m k ps sp) (tk : Takes X W) (hr : Room k X.A) (ho : PE X o to) (ha : PA X (e :: es) t)
    (hst : starEach (e :: es) X.env = (false, eval e X.env) :: starEach es X.env := by rfl) (hpl : (backTo pos (starEach es X.env)).any (·.1) = false := by rfl)
    (ht : eval (.Call (.Attribute o m apos) (e :: es) [] pos) X.env = (do
      let ov ← eval o X.env
      standAt apos.atName
      let (f, first) ← holding [ov] (getMethod ov m pl)
      callWith pos f first (backTo pos (starEach (e :: es) X.env)) (backToKw pos (keywordEach [] X.env))) := by rfl) : PE X (.Call (.Attribute o m apos) (e :: es) [] pos) (tMthX C m sp W to t) := by
  obtain ⟨f, fd, cl, mt, ok, b⟩ := c.ex
  refine ⟨fun pins s σ H Q I h => PySem.W.methodCall_KW (pl := pl) (thn (ho.run pins s σ H _ I h) fun u s1 ⟨v, H1, I1, rx, a, dx, fs, ev, ea, l, q⟩ => ?_) ht⟩
  subst ev
  cases rx
  refine getmeth_ok I1 ea cl mt l (PySem.W.callWith_K (first := [.ref a]) (h₀ := X.base) I.ok.mod.kin mt.kp (thn (ha.run pos pins s1 σ H1 _ I1 q) fun us s2 ⟨vs, H2, I2, rv, q2⟩ => ⟨I2.kIn, ?_⟩) hst hpl)
  exact run_fnS (E := fun σ => WE W σ) (us := .ref a :: us) (vs := .ref a :: vs) ok hr b (passAt tk σ) I2 (.cons rfl rv) q2
theorem pe_calE (c : CalE X.prog X.w X.K X.mg X.base x k ps sp) (tk : Takes X W) (hr : Room k X.A) (ha : PA X (e :: es) t) (hg : Gl X x := by rfl) (hdb : (x == ("__debug__" : Str)) = false := by decide)
    (he : starEach (e :: es) X.env = (false, eval e X.env) :: starEach es X.env := by rfl) (hpl : (backTo pos (starEach es X.env)).any (·.1) = false := by rfl) : PE X (.Call (.Name x p) (e :: es) [] pos) (tCallS sp (fun σ => WE W σ) t) := by
  obtain ⟨f, fd, ok, g, kp, b⟩ := c.ex
  exact pe_callS ok hr hg g kp b (fun σ => passAt tk σ) ha hdb he hpl (p := p)
end
/-! ### xs.count(x) of texts -/
section
variable {X : Cx}
def rCntS (K : PySem.W.Frag) : V → List V → Hp → VK → Prop := fun x xs H Q => ∃ (p : Addr) (ns : List Str) (z : Str), x = .ref p ∧ xs = [.str z] ∧ SqL K H p (ns.map V.str) ∧ Q (.int (ns.count z : Nat)) H
theorem plain_strs : ∀ ns : List Str, PyData.plainAll (ns.map PyData.str) = true
  | [] => rfl
  | n :: ns => by
    show (PyData.plain (PyData.str n) && PyData.plainAll (ns.map PyData.str)) = true
    rw [plain_strs ns]
    rfl
theorem depth_strs : ∀ ns : List Str, PyData.depthAll (ns.map PyData.str) ≤ 1
  | [] => Nat.zero_le 1
  | n :: ns => by
    show max (PyData.depth (PyData.str n)) (PyData.depthAll (ns.map PyData.str)) ≤ 1
    exact Nat.max_le.mpr ⟨by show 0 ≤ 1; omega, depth_strs ns⟩
theorem cnt_strs (z : Str) : ∀ ns : List Str, (ns.map PyData.str).countP (fun y => PyData.eqv y (.str z)) = ns.count z
  | [] => rfl
  | n :: ns => by
    rw [List.map_cons, List.countP_cons, List.count_cons, cnt_strs z ns]
    rfl
theorem mt_lcountS (hu : X.A.units + 65 < cLine) : MtR X "list.count" (rCntS X.K) := by
  intro pins s σ H x xs v us Q I rx rxs h
  obtain ⟨p, ns, z, rfl, rfl, hs, q⟩ := h
  cases rx
  obtain ⟨u, rfl, ru⟩ := rxs.one
  obtain ⟨t, rfl⟩ := ru
  obtain ⟨its, rv, pl, _⟩ := I.list hs
  obtain ⟨as, ra⟩ := Dp.readsAll I _ _ its (dp_strs ns) rv
  refine SeqAt.count_list_data pl.isList (by simpa using ra) (Reads.str z t) (plain_strs ns) rfl ?_ ?_
  · have := depth_strs ns
    have := Nat.min_le_left (PyData.depthAll (ns.map PyData.str)) (PyData.depth (.str z))
    omega
  · rw [cnt_strs]
    exact ⟨.int (ns.count z : Nat), H, I.tok _, ⟨s.toks, rfl⟩, q⟩
end
end Px
set_option maxHeartbeats 4000000
/-! t * k for any k from 0 on, t a tuple with items. -/
namespace Px
open PySem PySem.Spec PyProof.Rows L2 Bx TL Dx Zx Ow
theorem mul_one (l : Addr) (its : Array Value) (n : Nat) (dd : Option Addr) (sl : Array (Option Value)) (u : Tok) :
    Meets (Builtin.«tuple.__mul__» ⟨[.ref l, .int 1 u], []⟩) (fun _ R s => s.heap.get? l = some { cls := .type "tuple", dict := dd, data := .seq its n, slots := sl } ∧ R (.ok (.ret (.ref l))) s) :=
  .of_wp fun prog w A R s h => by
    obtain ⟨hp, g, d, tk, os⟩ := s
    obtain ⟨hl, h⟩ := h
    have f1 := AutoSeq1.idx_int
    have c1 : (its.isEmpty || (1 : Int) == 1) = true := by rw [show ((1 : Int) == 1) = true from rfl, Bool.or_true]
    wp_walk using wpAny_loadPart' hl
    repeat (first
      | (refine wpAny_ite_true (decide_eq_true c1) ?_; wp_walk using wpAny_loadPart' hl)
      | (refine wpAny_ite_false (by decide) ?_; wp_walk using wpAny_loadPart' hl))
    exact ⟨_, rfl, h⟩
theorem mul_nil (l : Addr) (its : Array Value) (n : Nat) (dd : Option Addr) (sl : Array (Option Value)) (u : Tok) (hi : its.isEmpty = false) :
    Meets (Builtin.«tuple.__mul__» ⟨[.ref l, .int 0 u], []⟩) (fun _ R s => s.heap.get? l = some { cls := .type "tuple", dict := dd, data := .seq its n, slots := sl } ∧
      R (.ok (.ret (Value.ref s.heap.objs.size))) { s with heap := s.heap.push { cls := Value.type "tuple", data := Data.seq #[] }, toks := s.toks }) :=
  .of_wp fun prog w A R s h => by
    obtain ⟨hp, g, d, tk, os⟩ := s
    obtain ⟨hl, h⟩ := h
    have f1 := AutoSeq1.idx_int
    have c1 : (its.isEmpty || (0 : Int) == 1) = false := by rw [hi]; rfl
    wp_walk using wpAny_loadPart' hl
    repeat (first
      | (refine wpAny_ite_false (decide_eq_false (by rw [c1]; exact Bool.false_ne_true)) ?_; wp_walk using wpAny_loadPart' hl)
      | (refine wpAny_ite_true (by decide) ?_; wp_walk using wpAny_loadPart' hl)
      | (refine wpAny_ite_false (by decide) ?_; wp_walk using wpAny_loadPart' hl))
    exact ⟨_, rfl, h⟩
def rRepA (K : PySem.W.Frag) : R2 := fun x y H Q => ∃ (l : Addr) (k : Nat) (xs : List V), x = .ref l ∧ y = .int (k : Int) ∧ SqT K H l xs ∧ xs ≠ [] ∧ k ≤ 1000 ∧ xs.length ≤ 1000 ∧ (k = 1 → Q (.ref l) H) ∧ (k ≠ 1 → ∀ p, H p = none → Q (.ref p) (upd H p (.tup (List.replicate k xs).flatten)))
theorem op_repA {X : Cx} : OpR X (binaryOp .Mult) (rRepA X.K) := by
  intro pins s σ H x y v u Q I rx ry h
  obtain ⟨l, k, xs, rfl, rfl, hT, hne, hk, hx, q1, q2⟩ := h
  by_cases h2 : 2 ≤ k
  · exact op_repT pins s σ H _ _ v u Q I rx ry ⟨l, (k : Int), xs, rfl, rfl, hT, hne, by omega, by omega, hx, fun p np => q2 (by omega) p np⟩
  · cases rx
    obtain ⟨t, rfl⟩ := ry
    obtain ⟨its, rv, ⟨⟨cls, dd, data, sl⟩, ho, hc, n, hd⟩, hsz⟩ := I.tuple hT
    simp only at hc hd
    subst hc hd
    have hi : its.toArray.isEmpty = false := by
      cases its with
      | nil =>
        cases rv
        exact absurd rfl hne
      | cons a b => rfl
    have hT2 : s.TypeIs (.ref l) "tuple" := ⟨_, ho, rfl⟩
    have go : ∀ {Z : Value → Shared → Prop} {D : Value → Shared → Prop}, wpAny (model X.prog X.w) X.A (call (.builtin "tuple.__mul__") [.ref l, .int (k : Int) t]) Z D s → wpAny (model X.prog X.w) X.A (binaryOp .Mult (.ref l) (.int (k : Int) t)) Z D s := fun {Z D} z =>
      wpAny_binaryOp_repeat_ref (T := "tuple") (U := "int") (by decide) hT2 (fun z => typeIs_int z (k : Int) t) noFill_tuple_mul F.fills_int_mul F.slot_int_rmul repeat_tuple F.slot_int_index.lookup
        (call_meets F.slot_int_rmul (typeIs_int s (k : Int) t) F.entry_int_rmul (F.args_int_rmul_2 _ _) (int_rmul_tuple (k : Int) t l its.toArray n dd sl) ⟨ho, rfl, hT2, z⟩)
    refine go ?_
    rcases (show k = 0 ∨ k = 1 by omega) with rfl | rfl
    · refine call_meets F.slot_tuple_mul hT2 F.entry_tuple_mul (F.args_tuple_mul_2 _ _) (mul_nil l its.toArray n dd sl t hi) ⟨ho, ?_⟩
      exact ⟨.ref s.heap.objs.size, _, I.laid (t' := s.toks) (o := .tup []) (fun b ob q => Heap.get?_push_of_some _ q) (Nat.le_refl _) ⟨Nat.zero_le _, [], .nil, IsTup.new _ _⟩, rfl, q2 (by omega) _ (I.hok.fresh (Nat.le_refl _))⟩
    · exact call_meets F.slot_tuple_mul hT2 F.entry_tuple_mul (F.args_tuple_mul_2 _ _) (mul_one l its.toArray n dd sl t) ⟨ho, .ref l, H, I, rfl, q1 rfl⟩
end Px
/-! try with several clauses, each of which names the error by the same name. -/
namespace Px
open PySem PySem.Spec PyProof.Rows L2 Bx TL Dx Zx Ow
abbrev Cl := Value × (Addr → Value → Option Addr → TS)
/-- the ends of a suite behind which slot i is taken away -/
def gone (i : Nat) (D : Ends) : Ends := { nx := fun σ H => D.nx (σ.set i none) H, rt := D.rt, bk := fun σ H => D.bk (σ.set i none) H, ct := fun σ H => D.ct (σ.set i none) H }
def wAsM (K : PySem.W.Frag) (i : Nat) (W0 : WX) (D : Ends) : List Cl → WX
  | [] => W0
  | c :: r => fun cls d σ H => ∃ b, PySem.W.exmOne K cls c.1 = some b ∧ (b = true → ∀ a, H a = none → c.2 a cls d (gone i D) (σ.set i (some (.ref a))) H) ∧ (b = false → wAsM K i W0 D r cls d σ H)
inductive HdA (X : Cx) (n : Str) : List ExceptHandler → List Cl → Prop
  | nil : HdA X n [] []
  | cons {x : Str} {c : Cl} {b0 : Stmt} {bs : List Stmt} {p1 p2 : Pos} {hs : List ExceptHandler} {l : List Cl} (nm : Names X x c.1)
      (su : ∀ (a : Addr) (o : Obj) (cls : Value) (d : Option Addr) (pn : List (Addr × Obj)), Zc cls d o → (∃ vs, o.data = .fields vs) → PSs (X.suite a ((a, o) :: pn)) (b0 :: bs) (c.2 a cls d)) (r : HdA X n hs l) :
      HdA X n (.ExceptHandler (some (.Name x p1)) (some n) (b0 :: bs) p2 :: hs) (c :: l)
section
variable {X : Cx} {n : Str} {i : Nat} {body : List Stmt} {h0 : ExceptHandler} {hs : List ExceptHandler} {l : List Cl} {pos : Pos} {tb : WX → TS} {W0 : WX}
theorem ps_tryA (hst : X.stack = X.env :: X.outer) (hfr : X.env.frame = some X.env.locals) (nd : X.N.Nodup) (hi : X.N[i]? = some n) (loc : X.env.kindOf n = some .local) (tk : Takes X W0)
    (hb : ∀ (W : WX) (pn : List (Addr × Obj)) (xe : Value → Shared → Prop), Takes (X.tr pn xe) W → PassesOwn (model X.prog X.w) X.A X.env xe → PSs (X.tr pn xe) body (tb W)) (hh : HdA X n (h0 :: hs) l) :
    PS X (.Try body (h0 :: hs) [] [] pos) (fun D σ H => tb (wAsM X.K i W0 D l) D σ H) := by
  refine ⟨fun pins s σ H D I h => wpAny_Try_except ?_⟩
  have ok := I.ok
  have fr2 : X.A.frames = some (X.env :: X.outer) := by rw [ok.frames, hst]
  refine wpAny_mono ((hb (wAsM X.K i W0 D l) (X.pn ++ pins) (fun e t1 => wpAny (model X.prog X.w) X.A (noteFrame e X.env) (fun _ t2 => wpAny (model X.prog X.w) X.A (setFlight e none) (fun _ t3 => wpAny (model X.prog X.w) X.A (handleBy e X.env (h0 :: hs)) (SP X pins D) X.xe t3) X.xe t2) X.xe t1)
    (fun er s' got => ?_) PassesOwn.looking).run [] s σ H D (I.toTry _) h) (fun fl s1 hsp => ?_) (fun er s1 he => he)
  · obtain ⟨a, B, sI, pins2, τ, G, cls, d, rfl, J0, nb, up, sky, na, os, ag, wish⟩ := got
    have J : Inv X pins τ G sI := J0.ofTry ok
    have sk2 : Sky B (X.env :: X.outer) a (Zc cls d) X.env.locals s'.heap := by rw [← hst]; exact sky
    show wpAny (model X.prog X.w) X.A (noteFrame (.ref a) X.env) _ _ _
    refine Sky.land Zc.steady fr2 hfr sk2 fun h3 fl3 up3 => ?_
    have J3 : Inv X pins τ G { s' with heap := h3 } := J.landed nb fl3.1 (up.trans up3) os ag
    obtain ⟨o3, v3, ho3, hz3, hd3⟩ := fl3.there
    have out : a ∉ frs (X.env :: X.outer) := fun hm => by
      obtain ⟨_, o2, ho2, no⟩ := fl3.2.2.1.mem hm
      rw [ho3] at ho2
      cases ho2
      exact no _ hd3
    have nL : a ≠ X.env.locals := fun z => out (List.mem_filterMap.mpr ⟨X.env, List.mem_cons_self, hfr.trans (congrArg some z.symm)⟩)
    have nF : a ∉ X.fs := fun hm => by
      obtain ⟨e, he, q⟩ := List.mem_filterMap.mp hm
      exact out (List.mem_filterMap.mpr ⟨e, List.mem_cons_of_mem _ he, q⟩)
    have S3 := J3.suite ho3 hd3 na nL nF
    have go : ∀ {hs2 : List ExceptHandler} {l2 : List Cl}, HdA X n hs2 l2 → wAsM X.K i W0 D l2 cls d τ G → wpAny (model X.prog X.w) X.A (handleBy (.ref a) X.env hs2) (SP X pins D) X.xe { s' with heap := h3 } := by
      intro hs2 l2 hk
      induction hk with
      | nil =>
        intro wish
        refine wpAny_handleBy_nil ?_
        obtain ⟨_, _, _, o4, v4, T, _, _, ho4, _, hd4, hT, _⟩ := id fl3
        unfold PySem.passOn
        refine wpAny_bind (wpAny_field ho4 hd4 hT ?_)
        rw [if_neg (show ¬ ((Value.ref T == Value.none) = true) from Bool.false_ne_true)]
        have last : wpAny (model X.prog X.w) X.A (setFlight (.ref a) X.env.frame) (fun _ t => wpAny (model X.prog X.w) X.A (throw (.ref a) : Sem Flow) (SP X pins D) X.xe t) X.xe { s' with heap := h3 } := by
          rw [hfr]
          refine HandSPX.setFlight_upZ fl3 fun h4 hh4 up4 => wpAny_throw (tk _ _ ⟨a, B, sI, pins, τ, G, cls, d, rfl, J, nb, (up.trans up3).trans up4, .inr (.inr ?_), na, os, ag, wish⟩)
          rw [hst]
          exact hh4
        first
          | exact wpAny_bind (wpAny_pure (wpAny_bind last))
          | exact wpAny_bind last
      | @cons x c b0 bs p1 p2 hs3 l3 nm su r ih =>
        intro wish
        obtain ⟨b, eb, yes, no⟩ := wish
        refine wpAny_handleBy_cons (codeAny_handlers_test ?_) (by intro q; cases q)
        have LT : PySem.W.Looks (model X.prog X.w) h3 (typeOf (.ref a)) cls := fun A Q E t k q => wpAny_typeOf_ref (k _ _ ho3) (by rw [hz3.1]; exact q)
        have LM := PySem.W.exm_one (M := model X.prog X.w) J3.kIn LT eb
        have look : ∀ {Q : Value → Shared → Prop} {E : Value → Shared → Prop}, Q c.1 { s' with heap := h3 } → wpAny (model X.prog X.w) (X.A.mark (some (.ref a))) (eval (.Name x p1) X.env) Q E { s' with heap := h3 } := fun {Q E} q => by
          obtain ⟨hg, hdb, hm | ⟨hm, hv, hnn⟩⟩ := nm
          · exact ld_glob (X := X.suite a ((a, o3) :: (X.pn ++ pins))) S3 hg hm q hdb
          · exact ld_blt (X := X.suite a ((a, o3) :: (X.pn ++ pins))) S3 hg hm hv q hnn hdb
        refine look (LM.here ?_)
        cases b with
        | false =>
          show wpAny _ X.A (handleBy (.ref a) X.env hs3) _ _ _
          exact ih (no rfl)
        | true =>
          refine codeAny_handlers_suite_as (HandSPX.lands_againZ fl3 fun h4 fl4 up4 => ?_)
          have J4 : Inv X pins τ G { s' with heap := h4 } := J.landed nb fl4.1 ((up.trans up3).trans up4) os ag
          obtain ⟨o4, v4, ho4, hz4, hd4⟩ := fl4.there
          refine store_ok (X := X.suite a ((a, o4) :: (X.pn ++ pins))) (v := .ref a) (J4.suite ho4 hd4 na nL nF) nd hi (.inl loc) rfl (fun s5 S5 => ?_) (.inr loc)
          refine wpAny_mono ((su a o4 cls d (X.pn ++ pins) hz4 ⟨_, hd4⟩).run [] s5 _ G _ S5 (yes rfl a na)) (fun fl s6 hsp => ?_) (fun _ _ z => False.elim z)
          have out6 : ∀ {ρ : L2.St} {H6 : Hp} {Q : Shared → Prop}, Inv (X.suite a ((a, o4) :: (X.pn ++ pins))) [] ρ H6 s6 → (∀ s7, Inv X pins (ρ.set i none) H6 s7 → Q s7) → wpAny (model X.prog X.w) X.A (do bindName X.env n .none; unbindBehindTheSuite X.env n p2) (fun _ s7 => Q s7) X.xe s6 :=
            fun S6 hq => gone_ok (S6.unsuite ok) nd hi loc hq
          match fl, hsp with
          | .next, ⟨ρ, H6, S6, q⟩ => exact out6 S6 fun s7 J7 => ⟨_, _, J7, q⟩
          | .brk, ⟨ρ, H6, S6, q⟩ => exact out6 S6 fun s7 J7 => ⟨_, _, J7, q⟩
          | .cont, ⟨ρ, H6, S6, q⟩ => exact out6 S6 fun s7 J7 => ⟨_, _, J7, q⟩
          | .ret u, ⟨v6, ρ, H6, S6, r6, q⟩ => exact out6 S6 fun s7 J7 => ⟨_, _, _, J7, r6, q⟩
    exact go hh wish
  · match fl, hsp with
    | .next, ⟨ρ, G, J, q⟩ => exact wpAny_execs_nil ⟨ρ, G, J.ofTry ok, q⟩
    | .brk, ⟨ρ, G, J, q⟩ => exact ⟨ρ, G, J.ofTry ok, q⟩
    | .cont, ⟨ρ, G, J, q⟩ => exact ⟨ρ, G, J.ofTry ok, q⟩
    | .ret u, ⟨v, ρ, G, J, rv, q⟩ => exact ⟨v, ρ, G, J.ofTry ok, rv, q⟩
end
end Px
/-! list(o), o of an own class with `__iter__` over a tuple and `__len__`. -/
namespace Px
open PySem PySem.Spec PyProof.Rows L2 Bx TL Dx Zx Ow
section
variable {X : Cx} {pins : List (Addr × Obj)} {σ : L2.St} {H : Hp} {s : Shared} {C p dx : Addr} {fs : List (Str × V)} {k : Nat} {ps : List Str} {sp : Sp} {A1 : Around} {E1 : Value → Shared → Prop}
theorem len_at {Q : Value → Shared → Prop} (sb : Sub X (k + 1) A1) (c : OwM X.prog X.w X.K X.mg X.base CX0 C "__len__" k ps sp) (I : Inv X pins σ H s) (ha : H p = some (.ins C dx fs)) (hsp : sp [.ref p] H (fun v G => G = H ∧ ∃ n : Nat, v = .int (n : Int) ∧ n ≤ 1000) E0)
    (q : ∀ (n : Nat) t s', n ≤ 1000 → Inv X pins σ H s' → Q (.int (n : Int) t) s') : wpAny (model X.prog X.w) A1 (call (.builtin "len") [.ref p]) Q E1 s := by
  obtain ⟨f, fd, ok, hs, hf, _, hb⟩ := c.ex
  obtain ⟨od, J⟩ := inst_of I ha
  obtain ⟨m, hF⟩ := I.fr
  refine PySem.W.len_K hF I.ok.mod.kin J hs hf ?_
  refine wpAny_mono (call_at sb.in1 ok hb I (vs := [.ref p]) (.cons rfl .nil) hsp (fun e s' z => z.elim)) (fun u s' hu => ?_) (fun _ _ z => z)
  obtain ⟨v, G, I', rv, rfl, n, rfl, hn⟩ := hu
  obtain ⟨t, rfl⟩ := rv
  exact ⟨⟨by omega, by omega⟩, q n _ _ hn (I'.tok _)⟩
theorem hint_own {Q : Bool → Shared → Prop} (sb : Sub X (k + 1) A1) (c : OwM X.prog X.w X.K X.mg X.base CX0 C "__len__" k ps sp) (I : Inv X pins σ H s) (ha : H p = some (.ins C dx fs)) (hsp : sp [.ref p] H (fun v G => G = H ∧ ∃ n : Nat, v = .int (n : Int) ∧ n ≤ 1000) E0)
    (q : ∀ b s', Inv X pins σ H s' → Q b s') : wpAny (model X.prog X.w) A1 (Builtin.List.listLengthHint (.ref p)) Q E1 s := by
  obtain ⟨f, fd, ok, hs, hf, _, hb⟩ := id c.ex
  obtain ⟨od, J⟩ := inst_of I ha
  unfold Builtin.List.listLengthHint
  refine wpAny_bind (wpAny_bind (J.type.here ((PySem.W.looks_findIn I.kIn hs).here ?_)))
  refine PySem.W.KFB.if_not rfl ?_
  show wpAny _ _ (rule _ >>= _) _ _ _
  refine wpAny_bind (wpAny_rule ?_)
  refine wpAny_bind (wpAny_attempt (len_at sb c I ha hsp fun n t s' hn I' => ?_))
  show wpAny _ _ (asInt? (Value.int (n : Int) t) >>= _) _ _ _
  refine wpAny_bind (wpAny_pure ?_)
  refine PySem.W.KFB.if_not ?_ (wpAny_pure (q _ s' I'))
  show decide ((n : Int).toNat > sizeLine) = false
  rw [sizeLine_eq]
  exact decide_eq_false (by omega)
/-- the iterator of o, where `__iter__` gives iter(self.f) -/
theorem iter_at {f : Str} {t : Addr} {zs : List V} {Q : Value → Shared → Prop} (sb : Sub X k A1) (c : ItM X.prog X.w X.K X.mg X.base C f k) (I : Inv X pins σ H s) (ha : H p = some (.ins C dx fs)) (hl : fs.lookup f = some (.ref t)) (hz : SqT X.K H t zs)
    (q : ∀ it s', Inv X pins σ H s' → s'.heap.IsTupleIter it t 0 → FpOk X pins H it → Q (.ref it) s') : wpAny (model X.prog X.w) A1 (pyIter (.ref p)) Q E1 s := by
  obtain ⟨fi, hfi, hf, go⟩ := c.ex
  obtain ⟨od, J⟩ := inst_of I ha
  obtain ⟨m, hF⟩ := I.fr
  refine PySem.W.owit_iter hF I.ok.mod.kin J hfi hf ?_
  have z0 := I.env0
  have e0 : Env0 X.prog X.w X.K X.mg X.base A1 X.stack s H := ⟨by rw [sb.fr]; exact z0.frames, z0.mod, z0.bs, z0.bsz, z0.funs, z0.frf, z0.hok, z0.bare⟩
  refine wpAny_call (codeAny_mono (go A1 X.stack s H E0 p dx t fs zs sb.room e0 ha hl hz) fun res s' back => ?_)
  match res, back with
  | .error e, back => exact back.elim
  | .ok .next, back => exact back.elim
  | .ok .brk, back => exact back.elim
  | .ok .cont, back => exact back.elim
  | .ok (.ret u), back =>
    obtain ⟨v, G, I2, rv, it, rfl, n1, hy, rfl⟩ := I.after back
    cases rv
    have e2 : upd H it (TiO t it) it = some (TiO t it) := upd_same
    have hit : s'.heap.IsTupleIter it t 0 := by
      have : ObjOk X.prog X.w (upd H it (TiO t it)) s'.heap it (.ext fun h => h.IsTupleIter it t 0) := I2.hok it _ e2
      exact this.1
    show wpAny _ _ (specialOf (.ref it) "__next__") _ _ _
    refine wpAny_specialOf (name := Str.ofString "__next__") hit.typeIs PySem.F.slot_tuple_iterator_next.lookup ?_
    have I3 := ItX.inv_drop I2 e2
    have fp := ItX.inv_fp I2 e2 (Nat.le_trans I.sz hy)
    rw [ItX.dropH_upd n1] at I3 fp
    exact q it s' I3 hit fp
theorem ext_loop {L it t : Addr} {zs : List V} {Rs : Result → Shared → Prop} (hc : X.calm = true) (hL : H L = some (.lst [])) (hz : SqT X.K H t zs) (hzl : zs.length ≤ 1000) (fp : FpOk X pins H it)
    (done : ∀ s', Inv X pins σ (upd H L (.lst zs)) s' → Rs (.ok (.ret .none)) s') :
    ∀ (m i : Nat) (s : Shared), zs.length - i = m → i ≤ zs.length → Inv X pins σ (upd H L (.lst (zs.take i))) s → s.heap.IsTupleIter it t i → codeAny (model X.prog X.w) X.A.in1 (.builtin "list.extend.loop" ⟨[.ref L, .ref it, .none], []⟩) Rs s := by
  have hzi : ∀ ys, SqT X.K (upd H L (.lst ys)) t zs := fun ys => by
    rcases hz with (h | ⟨u, h⟩) | h
    · exact .inl (.inl (by rw [upd_ne fun z => by rw [z, hL] at h; cases h]; exact h))
    · exact .inl (.inr ⟨u, by rw [upd_ne fun z => by rw [z, hL] at h; cases h]; exact h⟩)
    · exact .inr h
  have hit : it ≠ L := fun z => by
    have := fp.1
    rw [z, hL] at this
    cases this
  have fpi : ∀ ys, FpOk X pins (upd H L (.lst ys)) it := fun ys => ⟨by rw [upd_ne hit]; exact fp.1, fp.2⟩
  intro m
  induction m with
  | zero =>
    intro i s hm hi I st
    have e : i = zs.length := by omega
    subst e
    obtain ⟨its, rv, pt, _⟩ := I.tuple (hzi _)
    obtain ⟨f0, f1, f2, f3, f4, f5⟩ := fpi (zs.take zs.length)
    have hl := rv.length
    refine codeAny_builtin PySem.F.entry_extend_loop ?_
    rw [Around.under_plainId PySem.F.plain_extend_loop _]
    show wpAny _ X.A.in1.in1 (pyNext (.ref it) >>= _) _ _ s
    refine wpAny_bind (wpAny_pyNext_tuple_end (I.ok.hd hc) st (show s.heap.IsTuple t its.toArray from pt) (by simp; omega) fun h' eb => ?_)
    have I1 : Inv X pins σ (upd H L (.lst (zs.take zs.length))) { s with heap := h' } := I.turned (t' := s.toks) (fun b o hb e => eb b o hb e) f0 f1 f3 f4 f5
    rw [List.take_length] at I1
    exact wpAny_pure (done _ I1)
  | succ m ih =>
    intro i s hm hi I st
    have hlt : i < zs.length := by omega
    obtain ⟨its, rv, pt, _⟩ := I.tuple (hzi _)
    obtain ⟨u, hu, ru⟩ := rv.get (List.getElem?_eq_getElem hlt)
    obtain ⟨f0, f1, f2, f3, f4, f5⟩ := fpi (zs.take i)
    refine codeAny_builtin PySem.F.entry_extend_loop ?_
    rw [Around.under_plainId PySem.F.plain_extend_loop _]
    show wpAny _ X.A.in1.in1 (pyNext (.ref it) >>= _) _ _ s
    refine wpAny_bind (wpAny_pyNext_tuple_item st (show s.heap.IsTuple t its.toArray from pt) (x := u) (by simpa using hu) fun h' st' sb => ?_)
    have I1 : Inv X pins σ (upd H L (.lst (zs.take i))) { s with heap := h' } := I.turned (t' := s.toks) (fun b o hb e => (sb.2 b hb).trans e) f0 f1 f3 f4 f5
    obtain ⟨z, js, c, rj, hjl, ej⟩ := I1.lstM upd_same
    have tl : (zs.take i).length = i := by rw [List.length_take]; omega
    have jl : js.length = i := by rw [← rj.length, tl]
    show wpAny _ X.A.in1.in1 (updateSeq L (·.push u) >>= _) _ _ _
    have I2 := I1.lset (f := (·.push u)) (its := js) (its' := js ++ [u]) (ys := zs.take (i + 1)) (t' := s.toks) upd_same ej (by simp) (by rw [List.take_add_one, List.getElem?_eq_getElem hlt]; exact rj.append (.cons ru .nil)) (by rw [List.length_take, sizeLine_eq]; omega)
    rw [upd_upd] at I2
    refine wpAny_bind (wpAny_updateSeq ej rfl (wpAny_pure ⟨plainId_quiet PySem.F.plain_extend_loop _, ih (i + 1) _ (by omega) hlt I2 ?_⟩) (by rw [List.size_toArray, jl, sizeLine_eq]; omega) (by show (js.toArray.push u).size ≤ sizeLine + 1; rw [Array.size_push, List.size_toArray, jl, sizeLine_eq]; omega))
    exact st'.at fun o e => (Heap.get?_update_other _ _ (Ne.symm hit)).trans e
def rListO (K : PySem.W.Frag) (C : Addr) (f : Str) (sp : Sp) : List V → Hp → VK → Prop := fun xs H Q => ∃ (p dx t : Addr) (fs : List (Str × V)) (zs : List V), xs = [.ref p] ∧ H p = some (.ins C dx fs) ∧ fs.lookup f = some (.ref t) ∧ SqT K H t zs ∧ zs.length ≤ 1000 ∧
  (∀ G, (∀ b o, H b = some o → G b = some o) → sp [.ref p] G (fun v G' => G' = G ∧ ∃ n : Nat, v = .int (n : Int) ∧ n ≤ 1000) E0) ∧ ∀ q, H q = none → Q (.ref q) (upd H q (.lst zs))
theorem call_listO {f : Str} (hc : X.calm = true) (ci : ItM X.prog X.w X.K X.mg X.base C f k) (cl : OwM X.prog X.w X.K X.mg X.base CX0 C "__len__" k ps sp) (hr : Room (k + 3) X.A) : CallR X (.type "list") (rListO X.K C f sp) := by
  intro pins s σ H xs us Q I rv h
  obtain ⟨p, dx, t, fs, zs, rfl, hp, hl, hz, hzl, hsp, q⟩ := h
  obtain ⟨u, rfl, ru⟩ := rv.one
  cases ru
  have sb : Sub X (k + 1) X.A.in1.in1 := Sub.in1 (Sub.in1 (sub_self hr))
  refine callType_codes (Q₁ := fun obj s1 => obj = .ref s.heap.objs.size ∧ s1 = { s with heap := s.heap.push { cls := .type "list", data := .seq #[] } }) PySem.F.called_list (PySem.F.typeCall_list_1 _) PySem.F.entry_list_init (code_list_new _ ⟨rfl, rfl⟩) fun obj s1 h1 => ?_
  obtain ⟨rfl, rfl⟩ := h1
  have hS : (s.heap.push { cls := .type "list", data := .seq #[] }).get? s.heap.objs.size = some { cls := .type "list", data := .seq #[] } := Heap.get?_push_size _ rfl
  refine ⟨⟨_, hS, rfl⟩, PySem.F.args_list_init_2 _ _, ?_⟩
  have fr : H s.heap.objs.size = none := I.hok.fresh (Nat.le_refl _)
  have I1 : Inv X pins σ (upd H s.heap.objs.size (.lst [])) { s with heap := s.heap.push { cls := .type "list", data := .seq #[] } } := I.lnew (its := []) (t' := s.toks) .nil (Nat.zero_le _)
  have q2 := q _ fr
  have sm : Same H (upd H s.heap.objs.size (.lst [])) := same_new fr
  generalize hLd : s.heap.objs.size = L at hS fr I1 q2 sm ⊢
  show wpAny _ _ (do let old ← Builtin.List.listItems (.ref L); Builtin.List.listUpdate (.ref L) (fun _ => #[]); letGo old.toList.reverse; Builtin.List.listExtendWith (.ref L) (.ref p) .none) _ _ _
  refine wpAny_bind ?_
  unfold Builtin.List.listItems
  refine wpAny_bind (wpAny_seqItems hS rfl (wpAny_pure ?_))
  show wpAny _ _ (updateSeq L (fun _ => #[]) >>= fun _ => letGo (#[] : Array Value).toList.reverse >>= fun _ => Builtin.List.listExtendWith (.ref L) (.ref p) .none) _ _ _
  refine wpAny_bind (wpAny_updateSeq hS rfl ?_)
  have I2 := I1.lset (f := fun _ => #[]) (its := []) (its' := []) (ys := []) (t' := s.toks) upd_same hS rfl .nil (Nat.zero_le _)
  rw [upd_upd] at I2
  refine wpAny_bind (wpAny_letGo ?_)
  have hp2 := sm _ _ hp
  have hz2 := Bx.Same.tup sm hz
  have hsp2 := hsp _ sm
  have hL2 : upd H L (.lst []) L = some (.lst []) := upd_same
  have hne : L ≠ p := fun z => by rw [← z, fr] at hp; cases hp
  have fin : ∀ s', Inv X pins σ (upd (upd H L (.lst [])) L (.lst zs)) s' → EP X pins σ Q (.ref L) s' := fun s' I' => by
    rw [upd_upd] at I'
    exact ⟨.ref L, _, I', rfl, q2⟩
  clear q2 q hsp I1 I hS
  obtain ⟨mA, J, _⟩ := ins_get I2.hok hp2
  obtain ⟨od, J, _⟩ := J.look
  unfold Builtin.List.listExtendWith
  refine wpAny_bind (J.type.here ?_)
  have e1 : Builtin.List.listSameRef (.ref L) (.ref p) = false := by simp [Builtin.List.listSameRef, hne]
  have e2 : (Value.ref C == Value.type "list") = false := rfl
  have e3 : (Value.ref C == Value.type "tuple") = false := rfl
  simp only [e1, e2, e3, Bool.or_false, Bool.false_eq_true, if_false]
  refine wpAny_bind (iter_at (sb.mono (Nat.le_succ _)) ci I2 hp2 hl hz2 fun it s2 I3 hit fp => ?_)
  obtain ⟨oi, hoi, hci, hdi⟩ := id hit
  have Ip := I3.pinned (fp := [it]) (fun b hb => by rw [List.mem_singleton.mp hb]; exact fp) (fun b hb => by rw [List.mem_singleton.mp hb]; exact ⟨oi, hoi, fun v z => by rw [hdi] at z; cases z⟩)
  refine wpAny_bind (wpAny_holding (hint_own sb cl Ip hp2 hsp2 fun b s3 I4 => ?_))
  have hit3 : s3.heap.IsTupleIter it t 0 := hit.at fun o e => (I4.pin (it, o) (List.mem_append_right _ (List.mem_append_right _ (mem_pinsAt List.mem_cons_self e)))).1
  have I5 := I4.unpinned
  have run : ∀ s5, Inv X pins σ (upd (upd H L (.lst [])) L (.lst (zs.take 0))) s5 → s5.heap.IsTupleIter it t 0 → codeAny (model X.prog X.w) X.A.in1 (.builtin "list.extend.loop" ⟨[.ref L, .ref it, .none], []⟩) (wants (fun r s6 => r = .none ∧ EP X pins σ Q (.ref L) s6) X.xe) s5 := fun s5 J5 st5 =>
    ext_loop hc hL2 hz2 hzl fp (fun s6 J6 => ⟨rfl, fin s6 J6⟩) _ 0 s5 rfl (Nat.zero_le _) J5 st5
  have hH : upd (upd H L (.lst [])) L (.lst (zs.take 0)) = upd H L (.lst []) := upd_upd
  rw [hH] at run
  have hneL : it ≠ L := fun z => by
    have := fp.1
    rw [z, hL2] at this
    cases this
  refine wpAny_ite_split (fun _ => wpAny_bind (wpAny_rule (wpAny_bind ?_))) (fun _ => wpAny_pure ⟨plainId_quiet PySem.F.plain_extend_loop _, run s3 I5 hit3⟩)
  obtain ⟨z1, j1, c1, r1, l1, w1⟩ := I5.lstM hL2
  cases r1
  show wpAny _ _ (updateSeq L (·.push .none) >>= fun _ => updateSeq L (·.pop)) _ _ s3
  have K1 := I5.lset (f := (·.push Value.none)) (its' := [Value.none]) (ys := [.non]) (t' := s3.toks) hL2 w1 (by simp) (.cons rfl .nil) (by rw [sizeLine_eq]; decide)
  refine wpAny_bind (wpAny_updateSeq w1 rfl ?_)
  obtain ⟨z2, j2, c2, r2, l2, w2⟩ := K1.lstM upd_same
  obtain ⟨u2, rfl, _⟩ := r2.one
  have K2 := K1.lset (f := (·.pop)) (its := [u2]) (its' := []) (ys := []) (t' := s3.toks) upd_same w2 rfl .nil (Nat.zero_le _)
  rw [upd_upd, upd_upd] at K2
  refine wpAny_updateSeq w2 rfl (wpAny_pure ⟨plainId_quiet PySem.F.plain_extend_loop _, run _ K2 ?_⟩) (by show 1 ≤ sizeLine; rw [sizeLine_eq]; decide) (Nat.zero_le _)
  exact hit3.at fun o e => (Heap.get?_update_other _ _ (Ne.symm hneL)).trans ((Heap.get?_update_other _ _ (Ne.symm hneL)).trans e)
end
end Px
/-! o.m(..) where a method that may raise does not; C.m(..) of a classmethod. -/
namespace Px
open PySem PySem.Spec PyProof.Rows L2 Bx TL Dx Zx Ow
structure CmC (P : Program) (w : World) (K : PySem.W.Frag) (mg : Str → Option Value) (base : Heap) (C : Addr) (m : Str) (k : Nat) (sp : Sp) : Prop where
  ex : ∃ (mc : Value) (p g : Addr), ClX.CRead K C mc ∧ ClX.CMet K C mc m p g ∧ FnR P w K mg base CX0 k g sp
section
variable {X : Cx} {k : Nat} {ps : List Str} {sp : Sp} {o e : Expr} {es : List Expr} {t : TA} {apos pos : Pos} {C : Addr} {m : Str} {to : TE} {pl : Sem Bool}
theorem pe_mthN (c : MthX X.prog X.w X.K X.mg X.base C m k ps sp) (hr : Room k X.A) (ho : PE X o to) (ha : PA X (e :: es) t)
    (hst : starEach (e :: es) X.env = (false, eval e X.env) :: starEach es X.env := by rfl) (hpl : (backTo pos (starEach es X.env)).any (·.1) = false := by rfl)
    (ht : eval (.Call (.Attribute o m apos) (e :: es) [] pos) X.env = (do
      let ov ← eval o X.env
      standAt apos.atName
      let (f, first) ← holding [ov] (getMethod ov m pl)
      callWith pos f first (backTo pos (starEach (e :: es) X.env)) (backToKw pos (keywordEach [] X.env))) := by rfl) : PE X (.Call (.Attribute o m apos) (e :: es) [] pos) (tMeth C m sp [] E0 to t) := by
  obtain ⟨f, fd, cl, mt, ok, b⟩ := c.ex
  exact pe_meth (E := E0) ho cl mt ok hr b .nil passN ha hst hpl ht
theorem pe_cme (c : CmC X.prog X.w X.K X.mg X.base C m k sp) (hr : Room k X.A) (ho : PE X o to) (ha : PA X (e :: es) t)
    (hst : starEach (e :: es) X.env = (false, eval e X.env) :: starEach es X.env := by rfl) (hpl : (backTo pos (starEach es X.env)).any (·.1) = false := by rfl)
    (ht : eval (.Call (.Attribute o m apos) (e :: es) [] pos) X.env = (do
      let ov ← eval o X.env
      standAt apos.atName
      let (f, first) ← holding [ov] (getMethod ov m pl)
      callWith pos f first (backTo pos (starEach (e :: es) X.env)) (backToKw pos (keywordEach [] X.env))) := by rfl) : PE X (.Call (.Attribute o m apos) (e :: es) [] pos) (ClX.tCMeth C sp E0 to t) := by
  obtain ⟨mc, p, g, r, cm, F⟩ := c.ex
  exact ClX.pe_cmeth ho r cm F hr L2.pass0 ha hst hpl ht
/-- a property by its promise -/
structure PropC (P : Program) (w : World) (K : PySem.W.Frag) (mg : Str → Option Value) (base : Heap) (C : Addr) (m : Str) (k : Nat) (sp : Sp) : Prop where
  cl : Cls K C
  ex : ∃ (p g : Addr) (fd : FuncData), PropOf K C m p g ∧ FnOk P w K mg base CX0 k g fd ["self"] sp ∧ Binds K fd ["self"] []
theorem pe_propC {ta : TE} (c : PropC X.prog X.w X.K X.mg X.base C m k sp) (hr : Room (k + 1) X.A) (he : PE X e ta) (hab : attributeBase e m X.env (eval e X.env) = eval e X.env) : PE X (.Attribute e m pos) (tProp C sp [] E0 ta) := by
  obtain ⟨p, g, fd, hp, F, hb⟩ := c.ex
  exact pe_prop he c.cl hp F hr hb .nil L2.pass0 hab
end
end Px
/-! dicts whose keys are tuples: made by a comprehension. -/
namespace Dt
open PySem PySem.Spec PyProof.Rows L2 Bx TL Dx Zx
/-- the store of such a comprehension -/
theorem put_in {X : Cx} {pins : List (Addr × Obj)} {σ : L2.St} {H : Hp} {s : Shared} {E : Value → Shared → Prop} {D b : Addr} {kvs : List (List Key × V)} {k : List Key} {v : V} {r : Value} {Q : Unit → Shared → Prop} (hu : X.A.units < cLine) (J : Inv X pins σ H s) (hD : H D = some (.dT kvs)) (hl : kvs.length < sizeLine)
    (hb : H b = some (.tup (k.map kV))) (rv : RelV v r) (q : ∀ s', Inv X pins σ (upd H D (.dT (putK kvs k v))) s' → Q () s') : wpAny (model X.prog X.w) X.A (dictSet D (.ref b) r) Q E s := by
  obtain ⟨_, ns, xs, rel, dd⟩ := dt_of J.hok hD
  have small : xs.length ≤ sizeLine := by
    have := Paired.length rel
    omega
  have after : (putK kvs k v).length ≤ sizeLine := by
    have := length_putK kvs k v
    omega
  refine wpAny_dictSet_heap (hsz := small) hu (key_of J.hok hb) dd fun g dg sb => q _ ?_
  obtain ⟨ob, es, ep, ho, x2, x3, x4, _, x5⟩ := dg
  refine d_write J (by rw [hD]; exact True.intro) sb ⟨ob, ho⟩ ⟨after, ns, _, (rel.put k hb rv).keeps fun c ys e => ?_, ob, es, ep, ho, x2, x3, x4, x5⟩
  rw [upd_ne (ne_of e hD fun z => nomatch z)]
  exact e
end Dt
namespace Dt
open PySem PySem.Spec PyProof.Rows L2 Bx TL Dx Zx
section
variable {X : Cx}
/-- {k: v for target in iter if ..}, the keys tuples of ints and texts -/
def tDcT (wi : TI) (g : TG) (tt : TT) (tk tv : TE) (vs : List Nat) : TE := fun σ H Q => wi σ H fun J H1 => ∀ D, H1 D = none → ∃ W : Nat → Nat → Hp → Prop, (∃ m, W 0 m (upd H1 D (.dT []))) ∧ ∀ i m H, W i m H →
  (J.stop i H ∧ Q (.ref D) H) ∨ (J.go i H ∧ ∃ Nx : Hp → Prop, (∀ H', Nx H' → ∃ m', m' < m ∧ W (i + 1) m' H') ∧ ∀ x H', J.yld i H x H' → g x (wipe σ vs) H' fun σ2 H2 => wipe σ2 vs = wipe σ vs ∧ tt σ2 H2 fun b H3 =>
    if b = true then tk σ2 H3 fun y H4 => tv σ2 H4 fun z H5 => ∃ a kvs k, y = .ref a ∧ H5 a = some (.tup (k.map kV)) ∧ H5 D = some (.dT kvs) ∧ kvs.length < sizeLine ∧ Nx (upd H5 D (.dT (putK kvs k z))) else Nx H3)
end
end Dt
namespace Dt
open PySem PySem.Spec PyProof.Rows L2 Bx TL Dx Zx
section
variable {X : Cx}
/-- what holds between the turns: the block's slots are bare, the iterator stands at i, the measure is n -/
def Between (Y : Cx) (fp : List Addr) (tn : Nat → Heap → Prop) (W : Nat → Nat → Hp → Prop) (τ : L2.St) (n : Nat) (z : Shared) : Prop := ∃ i G, Inv Y [] τ G z ∧ tn i z.heap ∧ (∀ b ∈ fp, G b = none) ∧ W i n G
theorem dct_core {pins : List (Addr × Obj)} {s : Shared} {σ : L2.St} {H : Hp} {Q : VK} {kx vx tg iter : Expr} {ifs : List Expr} {scope : Scope} {own : List (Str × Nat)} {pos pos' : Pos} {wi : TI} {g : TG} {tt : TT} {tk tv : TE} {use : Option (Value → Sem Unit)} {Qf : Value → Shared → Prop}
    (hu : X.A.units < cLine) (calm : X.calm = true) (nod : X.N.Nodup) (J : Inv X pins σ H s) (walk : PI X tg iter wi) (ok : BlkOk X.N X.env.scope scope own)
    (pg : ∀ (z : Shared) (G : Hp) (C : Addr) (cl : List (Str × Addr)) (fp : List Addr), PG (X.blk z G scope (compEnvC scope cl C X.env) fp) tg g) (pt : ∀ (z : Shared) (G : Hp) (C : Addr) (cl : List (Str × Addr)) (fp : List Addr), PTs (X.blk z G scope (compEnvC scope cl C X.env) fp) ifs tt)
    (pk : ∀ (z : Shared) (G : Hp) (C : Addr) (cl : List (Str × Addr)) (fp : List Addr), PE (X.blk z G scope (compEnvC scope cl C X.env) fp) kx tk) (pv : ∀ (z : Shared) (G : Hp) (C : Addr) (cl : List (Str × Addr)) (fp : List Addr), PE (X.blk z G scope (compEnvC scope cl C X.env) fp) vx tv)
    (fold : ∀ x, foldedSetIterable iter X.env x = pure x) (want : tDcT wi g tt tk tv (own.map (·.2)) σ H Q)
    (back : ∀ D C z m G, Inv X pins σ G z → Q (.ref D) G → z.heap.Ns C m → FpOk X pins G C → compPost (model X.prog X.w) X.A X.xe use Qf (.ref D) C (.ok .next) z) :
    wpAny (model X.prog X.w) X.A (comprehension (.DictComp kx vx [⟨tg, iter, ifs, 0⟩] scope pos) scope X.env pos' newDict false (eval iter X.env) use) Qf X.xe s := by
  have free : ∀ y ∈ scope.names, y.2 = .free → ∃ c, X.env.cells.lookup y.1 = some c := fun y m e => (ok.free y m e).elim (fun k => J.ok.has _ (.inl k)) fun k => J.ok.has _ (.inr k)
  have names : ∀ y ∈ scope.names, y.2 = .local → scope.names.lookup y.1 = some .local := fun y m e => by
    have := ok.uniq y m
    rw [e] at this
    exact this
  refine wpAny_comprehension_free (use := use) rfl fold (closure_ok free) ok.kind names (thn (walk.run pins s σ H _ J want) fun first z1 got => thn got fun itv z2 ready => ?_)
  obtain ⟨it, fp, tn, I0, G2, rfl, J2, T, at0, out2, q⟩ := ready
  refine wpAny_newObj_type (newEnv_comp ?_)
  have bare : G2 z2.heap.objs.size = none := J2.hok.fresh (Nat.le_refl _)
  obtain ⟨W, ⟨n0, start⟩, turn⟩ := q _ bare
  have lo : ∀ b ∈ fp, b < z2.heap.objs.size := fun b m => by
    obtain ⟨u, hu2, _⟩ := T.obj _ _ at0 b m
    exact Heap.lt_size hu2
  have J3 : Inv X pins σ (upd G2 z2.heap.objs.size (.dT [])) { z2 with heap := z2.heap.push { cls := .type "dict", data := .dict #[] } } :=
    J2.laid (t' := z2.toks) (fun b o e => Heap.get?_push_of_some _ e) (Nat.le_refl _) (dt_empty z2.heap J2.big)
  have out3 : ∀ b ∈ fp, FpOk X pins (upd G2 z2.heap.objs.size (.dT [])) b ∧ b < (z2.heap.push { cls := .type "dict", data := .dict #[] }).objs.size := fun b m => by
    have l := lo b m
    refine ⟨⟨?_, (out2 b m).2⟩, ?_⟩
    · rw [upd_ne (Nat.ne_of_lt l)]
      exact (out2 b m).1
    · rw [Heap.size_push]
      exact Nat.lt_succ_of_lt l
  have at3 : tn 0 (z2.heap.push { cls := .type "dict", data := .dict #[] }) := T.keep _ _ _ at0 fun b _ o e => Heap.get?_push_of_some _ e
  generalize hD : z2.heap.objs.size = D at *
  generalize hz3 : ({ z2 with heap := z2.heap.push { cls := .type "dict", data := .dict #[] } } : Shared) = z3 at *
  have e3 : z3.heap = z2.heap.push { cls := .type "dict", data := .dict #[] } := by rw [← hz3]
  rw [← e3] at out3 at3
  have J4 := block_start J3 ok nod out3
  have bare3 : ∀ b ∈ fp, (upd G2 D (.dT [])) b = none := fun b m => (out3 b m).1.1
  generalize upd G2 D (.dT []) = G3 at J3 J4 bare3 out3 start
  generalize hcl : cellsFrom (z3.heap.objs.size + 1) scope.names (cloFrom X.env.cells scope.names []) = cl at J4 ⊢
  generalize hC : z3.heap.objs.size = C at *
  have g1 := pg z3 G3 C cl fp
  have g2 := pt z3 G3 C cl fp
  have g3 := pk z3 G3 C cl fp
  have g4 := pv z3 G3 C cl fp
  show codeAny _ _ (.compStart (.DictComp kx vx [⟨tg, iter, ifs, 0⟩] scope pos) 0 (.ref it) (.ref D) (compEnvC scope cl C X.env)) (compPost (model X.prog X.w) X.A X.xe use Qf (.ref D) C) { z3 with heap := pushCells (z3.heap.push { cls := .type "dict", data := .dict #[] }) scope.names }
  have at4 : tn 0 (pushCells (z3.heap.push { cls := .type "dict", data := .dict #[] }) scope.names) := T.keep _ _ _ at3 fun b _ o e => pushCells_keeps _ _ _ _ (Heap.get?_push_of_some _ e)
  generalize hz4 : ({ z3 with heap := pushCells (z3.heap.push { cls := .type "dict", data := .dict #[] }) scope.names } : Shared) = z4 at J4 ⊢
  have at4' : tn 0 z4.heap := by
    rw [← hz4]
    exact at4
  have cloc : (compEnvC scope cl C X.env).locals = C := rfl
  generalize compEnvC scope cl C X.env = ce at J4 g1 g2 g3 g4 cloc ⊢
  have stays : ∀ {τ : L2.St} {G : Hp} {z : Shared}, Inv (X.blk z3 G3 scope ce fp) [] τ G z → (∀ b ∈ fp, G b = none) → ∀ b ∈ fp, FpOk (X.blk z3 G3 scope ce fp) [] G b := fun J' hn b m =>
    ⟨hn b m, (J'.ok.exf b m).1, J'.ok.exfs b m, .inl m, fun x c e => (J'.ok.exf b m).2 x c e, fun p hp => absurd (show p ∈ ([] : List (Addr × Obj)) ++ [] from hp) (by simp)⟩
  have loop : codeAny (model X.prog X.w) X.A (.compLoop (.DictComp kx vx [⟨tg, iter, ifs, 0⟩] scope pos) 0 (.ref it) (.ref D) ce) (compPost (model X.prog X.w) X.A X.xe use Qf (.ref D) C) z4 := by
    refine compLoop_anyD (fun n z => Between (X.blk z3 G3 scope ce fp) fp tn W (wipe σ (own.map (·.2))) n z) (fun n z5 h5 => ?_) n0 ⟨0, G3, J4, at4', bare3, start⟩
    obtain ⟨i, G5, J5, at5, bare5, w5⟩ := h5
    rcases turn i n G5 w5 with ⟨stop, fin⟩ | ⟨go, Nx, less, step⟩
    · have over := T.done (X.blk z3 G3 scope ce fp) rfl rfl rfl calm i [] z5 _ G5 (fun _ _ => False) J5 (stays J5 bare5) at5 stop
      refine thnF over fun r z6 ⟨none_, J6⟩ => ?_
      subst none_
      have home : Inv X pins σ G5 z6 := J3.call' (ch := fp) J6.os J6.base J6.hok J6.bare fun b m => ⟨(out3 b m).1.2.2.2.1, (out3 b m).1.2.1, (out3 b m).1.2.2.2.2.1, (out3 b m).1.2.2.2.2.2⟩
      have noC : G5 C = none := by
        have f : G5 ce.locals = none := J6.free
        rwa [cloc] at f
      obtain ⟨m, ns, _⟩ := J6.loc
      have ns2 : z6.heap.Ns ce.locals m := ns
      rw [cloc] at ns2
      exact back D C z6 m G5 home fin ns2 (J3.fpOk (Nat.le_of_eq hC) noC)
    · have one := T.item (X.blk z3 G3 scope ce fp) rfl rfl rfl calm i [] z5 _ G5 (fun _ _ => False) J5 (stays J5 bare5) at5 go
      refine thnF one fun r z6 ⟨u, some_, h6⟩ => ?_
      subst some_
      refine thnF h6 fun _ z7 ⟨x, G7, J7, rx, y7, at7, bare7⟩ => ?_
      have J7p := J7.pinned (stays J7 bare7) (T.obj _ _ at7)
      refine thnF (g1.run _ z7 _ G7 x u _ J7p rx (step x G7 y7)) fun _ z8 ⟨σ8, G8, J8, clean, q8⟩ => ?_
      refine thnF (g2.run _ z8 σ8 G8 _ J8 q8) fun b z9 ⟨G9, J9, q9⟩ => ?_
      have next : ∀ {z : Shared} {G : Hp}, Inv (X.blk z3 G3 scope ce fp) ([] ++ pinsAt fp z7.heap) σ8 G z → Nx G → ∃ m, m < n ∧ Between (X.blk z3 G3 scope ce fp) fp tn W (wipe σ (own.map (·.2))) m z := fun {z G} J' nx => by
        obtain ⟨m, lt, w'⟩ := less G nx
        have held : ∀ b ∈ fp, ∀ o, z7.heap.get? b = some o → z.heap.get? b = some o ∧ G b = none := fun b m o e =>
          have k := J'.pin (b, o) (List.mem_append_right _ (List.mem_append_right _ (mem_pinsAt m e)))
          ⟨k.1, k.2.1⟩
        have long : (wipe σ (own.map (·.2))).length = σ8.length := by rw [← clean, wipe_length]
        refine ⟨m, lt, i + 1, G, (J'.unpinned (pins := [])).weak long (fun j v e => ?_), T.keep _ _ _ at7 fun b m o e => (held b m o e).1, fun b m => ?_, w'⟩
        · rw [← clean] at e
          exact (wipe_some e).1
        · obtain ⟨o, e, _⟩ := T.obj _ _ at7 b m
          exact (held b m o e).2
      cases b with
      | false =>
        simp only [Bool.false_eq_true, if_false] at q9 ⊢
        exact next J9 q9
      | true =>
        simp only [if_true] at q9 ⊢
        refine thnF (g3.run _ z9 σ8 G9 _ J9 q9) fun kv z10 ⟨y, G10, J10, ry, q10⟩ => ?_
        refine thnF (g4.run _ z10 σ8 G10 _ J10 q10) fun vv z11 ⟨v, G11, J11, rv, a, kvs, k, ey, ha, hd, small, nx⟩ => ?_
        subst ey
        cases ry
        exact put_in (X := X.blk z3 G3 scope ce fp) hu J11 hd small ha rv fun z12 J12 => next J12 nx
  exact codeAny_compStart_dict loop (T.self X.A 0 _ _ _ at4' loop)
end
end Dt
namespace Dt
open PySem PySem.Spec PyProof.Rows L2 Bx TL Dx Zx
section
variable {X : Cx}
/-- name = {k: v for ..}, the keys tuples -/
theorem ps_setDcT {i : Nat} {y : Str} {py : Pos} {kx vx tg iter : Expr} {ifs : List Expr} {scope : Scope} {own : List (Str × Nat)} {pos spos : Pos} {wi : TI} {g : TG} {tt : TT} {tk tv : TE} (hu : X.A.units < cLine) (hc : X.calm = true) (hN : X.N.Nodup) (hy : X.N[i]? = some y) (hyl : X.env.scope.names.lookup y = some .local)
    (hsw : swapsWith (.DictComp kx vx [⟨tg, iter, ifs, 0⟩] scope pos) (some (.Name y py)) spos.line X.env = pure true) (hi : PI X tg iter wi) (ok : BlkOk X.N X.env.scope scope own)
    (hg : ∀ (s : Shared) (H : Hp) (C : Addr) (cl : List (Str × Addr)) (fp : List Addr), PG (X.blk s H scope (compEnvC scope cl C X.env) fp) tg g) (ht : ∀ (s : Shared) (H : Hp) (C : Addr) (cl : List (Str × Addr)) (fp : List Addr), PTs (X.blk s H scope (compEnvC scope cl C X.env) fp) ifs tt)
    (hk : ∀ (s : Shared) (H : Hp) (C : Addr) (cl : List (Str × Addr)) (fp : List Addr), PE (X.blk s H scope (compEnvC scope cl C X.env) fp) kx tk)
    (he : ∀ (s : Shared) (H : Hp) (C : Addr) (cl : List (Str × Addr)) (fp : List Addr), PE (X.blk s H scope (compEnvC scope cl C X.env) fp) vx tv) (hs : ∀ x, foldedSetIterable iter X.env x = pure x := by intro _; rfl) :
    PS X (.Assign [.Name y py] (.DictComp kx vx [⟨tg, iter, ifs, 0⟩] scope pos) spos) (tAsg (tDcT wi g tt tk tv (own.map (·.2))) (gName i)) := by
  refine ⟨fun pins s σ H D I h => ?_⟩
  rw [exec_Assign_Name_used _ _ _ _ hsw]
  refine wpAny_bind (wpAny_standAt (wpAny_bind ?_))
  show wpAny _ X.A (do let _ ← comprehension (.DictComp kx vx [⟨tg, iter, ifs, 0⟩] scope pos) scope X.env _ newDict false (eval iter X.env) (some (assign (.Name y py) X.env))) _ _ s
  have h : tDcT wi g tt tk tv (own.map (·.2)) σ H (fun x H1 => gName i x σ H1 D.nx) := h
  refine wpAny_bind (thn (dct_core (Qf := fun _ s' => SP X pins D .next s') hu hc hN I hi ok hg ht hk he hs h fun L C s' m H' I' q hn f => ?_) fun _ s' hq => wpAny_pure (wpAny_pure hq))
  show wpAny _ _ (assign (.Name y py) X.env (.ref L)) _ _ _
  refine wpAny_assign_Name (store_ok2 (v := V.ref L) I' hN hy (.inl hyl) rfl (fun s2 I2 ⟨a, sb, ha⟩ => ?_) (.inr hyl))
  obtain ⟨f0, f1, f2, f3, f4, f5⟩ := f
  have haC : C ≠ a := by
    rcases ha with z | z
    · rw [z]; exact f1
    · exact fun e => f4 y a z e.symm
  refine ⟨m, hn.sameBut sb haC, fun h3 sb3 => ?_⟩
  exact ⟨_, H', I2.turned (t' := s2.toks) (fun b o hb e => (sb3.2 b hb).trans e) f0 f1 f3 f4 f5, q⟩
end
/-- over a walk -/
theorem dct_it {J : It} {n : Nat} {G : Hp → Prop} {Y : Nat → Hp → V → Hp → Prop} (w : Walk J n G Y) {g : TG} {tt : TT} {tk tv : TE} {vs : List Nat} {σ : L2.St} {H1 : Hp} {D : Addr} {Qd : Hp → Prop} (Pv : Nat → Hp → Prop) (h0 : Pv 0 (upd H1 D (.dT []))) (hG : ∀ i H, i ≤ n → Pv i H → G H)
    (hs : ∀ i x H H', i < n → Pv i H → Y i H x H' → g x (wipe σ vs) H' fun σ2 H2 => wipe σ2 vs = wipe σ vs ∧ tt σ2 H2 fun b H3 =>
      if b = true then tk σ2 H3 fun y H4 => tv σ2 H4 fun z H5 => ∃ a kvs k, y = .ref a ∧ H5 a = some (.tup (k.map kV)) ∧ H5 D = some (.dT kvs) ∧ kvs.length < sizeLine ∧ Pv (i + 1) (upd H5 D (.dT (putK kvs k z))) else Pv (i + 1) H3) (hd : ∀ H, Pv n H → Qd H) :
    ∃ W : Nat → Nat → Hp → Prop, (∃ m, W 0 m (upd H1 D (.dT []))) ∧ ∀ i m H, W i m H →
      (J.stop i H ∧ Qd H) ∨ (J.go i H ∧ ∃ Nx : Hp → Prop, (∀ H', Nx H' → ∃ m', m' < m ∧ W (i + 1) m' H') ∧ ∀ x H', J.yld i H x H' → g x (wipe σ vs) H' fun σ2 H2 => wipe σ2 vs = wipe σ vs ∧ tt σ2 H2 fun b H3 =>
        if b = true then tk σ2 H3 fun y H4 => tv σ2 H4 fun z H5 => ∃ a kvs k, y = .ref a ∧ H5 a = some (.tup (k.map kV)) ∧ H5 D = some (.dT kvs) ∧ kvs.length < sizeLine ∧ Nx (upd H5 D (.dT (putK kvs k z))) else Nx H3) :=
  walk_any (B := fun (Nx : Hp → Prop) x H' => g x (wipe σ vs) H' fun σ2 H2 => wipe σ2 vs = wipe σ vs ∧ tt σ2 H2 fun b H3 =>
        if b = true then tk σ2 H3 fun y H4 => tv σ2 H4 fun z H5 => ∃ a kvs k, y = .ref a ∧ H5 a = some (.tup (k.map kV)) ∧ H5 D = some (.dT kvs) ∧ kvs.length < sizeLine ∧ Nx (upd H5 D (.dT (putK kvs k z))) else Nx H3) w Pv h0 hG hs hd
end Dt
namespace Dt
open PySem PySem.Spec PyProof.Rows L2
/-- e.f within a block: the written part is named -/
theorem pe_fldK {X : Cx} {K : PySem.W.Frag} {e : Expr} {f : Str} {pos : Pos} {ta : TE} (h : X.K = K) (he : PE X e ta) (hb : attributeBase e f X.env (eval e X.env) = eval e X.env) : PE X (.Attribute e f pos) (tFld K ta f) := by
  subst h
  exact pe_fld he hb
end Dt
/-! a comprehension within another one's block -/
namespace Nx
open PySem PySem.Spec PyProof.Rows L2
theorem rel_eq {scope : Scope} {env : Env} {sc : Scope} (h : env.scope = sc) : relabel scope env = relS scope sc := by
  subst h
  rfl
theorem blkOk_nest {N : List Str} {sc scope1 scope : Scope} {cl : List (Str × Addr)} {C : Addr} {env : Env} {own : List (Str × Nat)} (he : env.scope = sc) (h : blkC N (relS scope1 sc) scope own = true) : BlkOk N (compEnvC scope1 cl C env).scope scope own := by
  have e : (compEnvC scope1 cl C env).scope = relS scope1 sc := rel_eq he
  rw [e]
  exact blkOk_by h
/-- d.setdefault(t, v), t a tuple of ints and texts -/
def rSetdT : V → List V → Hp → VK → Prop := fun x vs H Q => ∃ (a b : Addr) (kvs : List (List Key × V)) (k : List Key) (v : V), x = .ref a ∧ vs = [.ref b, v] ∧ H a = some (.dT kvs) ∧ H b = some (.tup (k.map kV)) ∧ kvs.length < sizeLine ∧
  (∀ u, valV kvs k = some u → Q u H) ∧ (valV kvs k = none → Q v (upd H a (.dT (putK kvs k v))))
theorem mt_setdT {X : Cx} (hu : X.A.units + 1 < cLine) : MtR X "dict.setdefault" rSetdT := by
  intro pins s σ H x xs v us Q I rx rs q
  obtain ⟨a, b, kvs, k, y, rfl, rfl, ea, eb, hl, w1, w2⟩ := q
  cases rx
  cases rs with
  | cons r1 rs =>
    cases rs with
    | cons r2 rs =>
      cases rs
      cases r1
      obtain ⟨z, hd, xs0, rel, dd⟩ := dt_of I.hok ea
      have hz : xs0.length ≤ sizeLine := by rw [← Paired.length rel]; exact z
      have hl2 : (putK kvs k y).length ≤ sizeLine := by have := length_putK kvs k y; omega
      refine call_setdefault_heap (hsz := hz) (tupleKind_room_in1 hu) (key_of I.hok eb) hd dd (fun p hp => ?_) fun hn h' dd' hs => ?_
      · have rr := rel.val k
        rw [hp] at rr
        cases e : valV kvs k with
        | none =>
          rw [e] at rr
          have := rr.isSome_eq
          cases this
        | some u =>
          rw [e] at rr
          exact ⟨u, H, I.tok _, rr, w1 u e⟩
      · have rr := rel.val k
        rw [hn] at rr
        have e : valV kvs k = none := by
          cases e : valV kvs k with
          | none => rfl
          | some u =>
            rw [e] at rr
            have := rr.isSome_eq
            cases this
        obtain ⟨q, es, ep, hq, h2, h3, h4, _, h5⟩ := dd'
        refine ⟨y, upd H a (.dT (putK kvs k y)), d_write I (by rw [ea]; exact True.intro) hs ⟨q, hq⟩ ⟨hl2, hd, _, (rel.put k eb r2).keeps fun c ys ec => ?_, q, es, ep, hq, h2, h3, h4, h5⟩, r2, w2 e⟩
        rw [upd_ne (ne_of ec ea (fun z => nomatch z))]
        exact ec
end Nx
/-! C() of an own class that has no `__init__`. -/
namespace Mk0
open PySem PySem.Spec PyProof.Rows L2 Ow
structure Bare (K : PySem.W.Frag) (mg : Str → Option Value) (x : Str) (C : Addr) : Prop where
  make : PySem.W.makesIn K C = true
  ini : PySem.W.findIn K (.ref C) "__init__" = some (some (.builtin "object.__init__"))
  kp : PySem.W.keepIn K (.ref C) = true
  g : mg x = some (.ref C)
section
variable {X : Cx} {pins : List (Addr × Obj)} {σ : L2.St} {H : Hp} {s : Shared} {C : Addr} {Q : VK} {x : Str} {p pos : Pos}
def tBare (C : Addr) : TE := fun _ H Q => ∀ y dy, H y = none → H dy = none → dy ≠ y → Q (.ref y) (upd (upd H dy (.own y)) y (.ins C dy []))
theorem run_bare (B : Bare X.K X.mg x C) (I : Inv X pins σ H s) (h : tBare C σ H Q) : wpAny (model X.prog X.w) X.A (call (.ref C) []) (EP X pins σ Q) X.xe s := by
  have hq := h (s.heap.objs.size + 1) s.heap.objs.size (I.hok.fresh (Nat.le_succ _)) (I.hok.fresh (Nat.le_refl _)) (Nat.ne_of_lt (Nat.lt_succ_self _))
  have I2 := Inv.made (C := C) I
  have XK := I.kIn
  obtain ⟨hh, g, d, t, os⟩ := s
  have Y := PySem.W.makes_of (M := model X.prog X.w) XK B.make
  refine wpAny_call (PySem.W.make_core Y (PySem.W.looks_findIn XK B.ini) (fun self => PySem.W.Looks.of_pure (PySem.W.oi_bind self)) (.inr ⟨rfl, rfl⟩) ?_)
  have hx : ((hh.push PySem.W.emptyDict).push (PySem.W.instObj C hh.objs.size)).get? (hh.objs.size + 1) = some (PySem.W.instObj C hh.objs.size) := by
    have := Heap.get?_push_size (hh.push PySem.W.emptyDict) (o := PySem.W.instObj C hh.objs.size) rfl
    rwa [Heap.size_push] at this
  have t1 : PySem.W.Looks (model X.prog X.w) ((hh.push PySem.W.emptyDict).push (PySem.W.instObj C hh.objs.size)) (typeOf (.ref (hh.objs.size + 1))) (.ref C) := (PySem.W.Looks.ld hx).andThen .now
  have t2 : PySem.W.Looks (model X.prog X.w) ((hh.push PySem.W.emptyDict).push (PySem.W.instObj C hh.objs.size)) (isInstance (.ref (hh.objs.size + 1)) (.type "object")) true := t1.andThen (Y.top.keeps fun b o e => Heap.get?_push_of_some _ (Heap.get?_push_of_some _ e))
  refine PySem.codeAny_call_builtin PySem.W.oi_plain PySem.W.entry_oi (@PySem.W.check_slot (model X.prog X.w) _ _ _ "object.__init__" "object" "__init__" (.ref (hh.objs.size + 1)) [] [] _ PySem.W.oi_kind PySem.W.oi_split t2 (PySem.W.oi_args (.ref (hh.objs.size + 1))) ?_)
  rw [PySem.W.oi_run]
  exact wpAny_pure (And.intro rfl ⟨V.ref (hh.objs.size + 1), _, I2, rfl, hq⟩)
theorem pe_bare (B : Bare X.K X.mg x C) (hg : Gl X x := by rfl) (hdb : (x == ("__debug__" : Str)) = false := by decide) : PE X (.Call (.Name x p) [] [] pos) (tBare C) := by
  refine ⟨fun pins s σ H Q I h => ?_⟩
  refine wpAny_Call_Name_kw (ld_glob I hg B.g ?_ hdb)
  exact PySem.W.callWith_K0 I.kIn B.kp (run_bare B I h)
end
end Mk0
/-! super().m(..) in a method of an own class, m a def of the class above: as the value of a `return .. and ..`, or in an `if not ..`. -/
namespace SupM
open PySem PySem.Spec PyProof.Rows L2 NdefX Sup Ow
section
variable {X : Cx} {pins : List (Addr × Obj)} {σ : List (Option V)} {H : Hp} {s : Shared} {self m : Str} {D a C dx g : Addr} {fs : List (Str × V)} {body : List Stmt} {p0 p1 p2 pos pos' : Pos} {e : Expr} {es : List Expr} {ta : TA} {pl : Sem Bool} {k : Nat} {sp : Sp} {Q : VK}
/-- the class above has the def g under the name m -/
structure SupA (K : PySem.W.Frag) (C D : Addr) (m : Str) (g : Addr) : Prop where
  cls : ∃ cd, PySem.W.clsIn K D = some cd
  sub : PySem.W.mroIn K C (.ref D) = some true
  sup : PySem.W.ks_superIn K C D m = some (some (.ref g))
  ty : PySem.W.typeIn K (.ref g) = some (.type "function")
  fn : PySem.W.fnIn K g = true
  nc : (m == ("__class__" : Str)) = false
theorem sup_eval (I : Inv X pins σ H s) (S : SupF X.prog X.K X.mg X.env self D) (T : SupA X.K C D m g) (F : FnR X.prog X.w X.K X.mg X.base CX0 k g sp) (hr : Room k X.A) (hN : X.N[0]? = some self) (h0 : σ[0]? = some (some (.ref a))) (ea : H a = some (.ins C dx fs)) (ha : PA X (e :: es) ta)
    (h : ta σ H fun vs H2 => sp (.ref a :: vs) H2 Q E0)
    (hev : eval (.Call (.Attribute (.Call (.Name "super" p0) [] [] p1) m p2) (e :: es) [] pos) X.env = (do
      let ov ← attributeBase (.Call (.Name "super" p0) [] [] p1) m X.env (eval (.Call (.Name "super" p0) [] [] p1) X.env)
      standAt p2.atName
      let (f, first) ← holding [ov] (getMethod ov m pl)
      callWith pos f first (backTo pos (starEach (e :: es) X.env)) []) := by rfl)
    (he : starEach (e :: es) X.env = (false, eval e X.env) :: starEach es X.env := by rfl) (hpl : (backTo pos (starEach es X.env)).any (·.1) = false := by rfl) :
    _root_.PySem.wpAt (model X.prog X.w) X.A (.func body X.env) (eval (.Call (.Attribute (.Call (.Name "super" p0) [] [] p1) m p2) (e :: es) [] pos) X.env) (EP X pins σ Q) X.xe s := by
  refine ks_wpAt_MethodCall ?_ hev
  obtain ⟨f, oc, od, fd, osl, ar, hfu, lf, hp, har⟩ := S.fn
  obtain ⟨cda, ccl, cdd, vs, ccs, file, tf, hco, lc, hvs, hfile⟩ := S.co
  obtain ⟨cc, cl, cld, csl, hcl, lcc⟩ := S.ce
  obtain ⟨mm, v, hn, hv, rv⟩ := self_at I hN h0 S.ka
  obtain rfl : v = Value.ref a := rv
  obtain ⟨oi, inst⟩ := inst_of I ea
  obtain ⟨cdD, hD⟩ := T.cls
  have XK := I.kIn
  obtain ⟨oD, hD1, hD2⟩ : ∃ oD, s.heap.get? D = some oD ∧ oD.data = .cls cdD := by
    unfold PySem.W.clsIn at hD
    split at hD
    · rename_i c d cd' sl ho
      cases hD
      exact ⟨_, XK _ _ ho, rfl⟩
    · cases hD
  refine ks_wpAt_super_base S.ks S.kc T.nc hfu (XK _ _ lf) rfl hp hco (XK _ _ lc) rfl hvs hfile S.top ?_
  refine ld_super I S ⟨rfl, ?_⟩
  refine wpAny_loadName_free I.ok.kind S.kc hcl ⟨_, XK _ _ lcc, rfl⟩ ?_
  refine wpAny_loadName_local I.ok.kind (har ▸ S.ka) hn (har ▸ hv) ?_
  refine ks_wpAny_isType_cls hD1 hD2 ⟨rfl, ?_⟩
  obtain ⟨hp0, gg, d, t, os⟩ := s
  refine ks_wpAny_call_super hD1 hD2 inst.at_ rfl (fun c e => by cases e) (PySem.W.looks_mroIn XK T.sub) fun h' eso k2 => ?_
  have I2 : Inv X pins σ H ⟨h', gg, d, t, os⟩ := I.kept (t' := t) k2
  have XK2 := I2.kIn
  have sup := T.sup
  unfold PySem.W.ks_superIn at sup
  cases hc : PySem.W.clsIn X.K C with
  | none =>
    rw [hc] at sup
    cases sup
  | some cd =>
    rw [hc] at sup
    obtain ⟨oi2, inst2⟩ := inst_of I2 ea
    obtain ⟨of, hof, hofc⟩ : ∃ of, h'.get? g = some of ∧ of.cls = .type "function" := by
      have ht' : (X.K.lookup g).map (·.cls) = some (.type "function") := T.ty
      cases z : X.K.lookup g with
      | none => rw [z] at ht'; cases ht'
      | some of => rw [z] at ht'; exact ⟨of, XK2 _ _ z, Option.some.inj ht'⟩
    refine ks_wpAny_getMethod_super eso (PySem.W.looks_opaque XK2 S.any) (l₀ := cd.mro) ?_ rfl XK2 sup hof hofc (PySem.W.ks_ne XK2 inst2 hc) T.nc ?_
    · exact fun A Q E s k q => wpAny_bind ((PySem.W.looks_clsIn XK2 hc) A _ E s k (wpAny_pure q))
    · have I3 := ClX.met_new (g := g) (C := a) I2
      refine ClX.callwith_cm I3 (ClX.base_none I2 (Nat.le_refl _)) T.fn (thn (ha.run pos _ _ σ H _ I3 h) fun us s3 ⟨vs, H2, I4, rv, q2⟩ => ⟨⟨ClX.pin_at I4, I4.kIn⟩, ?_⟩) he hpl
      exact ClX.run_cm F hr L2.pass0 I4 rv q2
end
/-! ### expressions, tests, statements that know the body they stand in -/
section
variable {M : Model} {A : Around} {c : Code} {E : Value → Shared → Prop} {s : Shared} {env : Env}
theorem at_and {e₁ e₂ : Expr} {rest : List Expr} {pos : Pos} {Q : Value → Shared → Prop}
    (h : _root_.PySem.wpAt M A c (eval e₁ env) (fun v s₁ => wpAny M A (truthy v) (fun c s₂ => if c then wpAny M A (eval (.BoolOp .And (e₂ :: rest) pos) env) Q E s₂ else Q v s₂) E s₁) E s) :
    _root_.PySem.wpAt M A c (eval (.BoolOp .And (e₁ :: e₂ :: rest) pos) env) Q E s := by
  show _root_.PySem.wpAt M A c (do
    let v ← eval e₁ env
    standAt pos
    let c ← holding [v] (truthy v)
    match BoolOp.And, c with
    | .And, false | .Or, true => pure v
    | _, _ => boolOp pos .And (eval e₂ env :: evalEach rest env)) Q E s
  refine _root_.PySem.wpAt_bind (ks_wpAt_mono h (fun v s₁ h₁ => wpAt_of_wpAny (wpAny_bind (wpAny_standAt (wpAny_bind (wpAny_holding (wpAny_mono h₁ (fun c s₂ h₂ => ?_) fun _ _ x => x)))))) fun _ _ x => x)
  cases c with
  | false => exact wpAny_pure h₂
  | true => exact h₂
theorem at_not {x : Expr} {pos : Pos} {whole : Sem Value} {Q : Bool → Shared → Prop} (h : _root_.PySem.wpAt M A c (isTrue x env (eval x env)) (fun c s' => Q (!c) s') E s) :
    _root_.PySem.wpAt M A c (isTrue (.UnaryOp .Not x pos) env whole) Q E s := by
  show _root_.PySem.wpAt M A c (do return !(← isTrue x env (eval x env))) Q E s
  exact _root_.PySem.wpAt_bind (ks_wpAt_mono h (fun c s' h' => wpAt_of_wpAny (wpAny_pure h')) fun _ _ x => x)
theorem at_or {x : Expr} {rest : List Expr} {pos : Pos} {whole : Sem Value} {Q : Bool → Shared → Prop}
    (h : _root_.PySem.wpAt M A c (isTrue x env (eval x env)) (fun c s' => if c then Q true s' else wpAny M A (isTrue (.BoolOp .Or rest pos) env whole) Q E s') E s) :
    _root_.PySem.wpAt M A c (isTrue (.BoolOp .Or (x :: rest) pos) env whole) Q E s := by
  show _root_.PySem.wpAt M A c (do
    match BoolOp.Or, ← isTrue x env (eval x env) with
    | .And, false => pure false
    | .Or, true => pure true
    | _, _ => allTrue .Or rest env) Q E s
  refine _root_.PySem.wpAt_bind (ks_wpAt_mono h (fun c s' h' => wpAt_of_wpAny ?_) fun _ _ x => x)
  cases c with
  | false => exact h'
  | true => exact wpAny_pure h'
end
section
variable {X : Cx} {body : List Stmt} {e a b : Expr} {rest : List Expr} {st : Stmt} {sts : List Stmt} {pos : Pos} {te ta tb : TE} {tA tB' : TT} {t u : TS}
structure PEa (X : Cx) (body : List Stmt) (e : Expr) (te : TE) : Prop where
  run : ∀ pins s σ H Q, Inv X pins σ H s → te σ H Q → _root_.PySem.wpAt (model X.prog X.w) X.A (.func body X.env) (eval e X.env) (EP X pins σ Q) X.xe s
structure PTa (X : Cx) (body : List Stmt) (e : Expr) (t : TT) : Prop where
  run : ∀ pins s σ H Q, Inv X pins σ H s → t σ H Q → _root_.PySem.wpAt (model X.prog X.w) X.A (.func body X.env) (isTrue e X.env (eval e X.env)) (TP X pins σ Q) X.xe s
structure PSa (X : Cx) (body : List Stmt) (st : Stmt) (t : TS) : Prop where
  run : ∀ pins s σ H D, Inv X pins σ H s → t D σ H → _root_.PySem.wpAt (model X.prog X.w) X.A (.func body X.env) (exec st X.env) (SP X pins D) X.xe s
structure PSsa (X : Cx) (body : List Stmt) (sts : List Stmt) (t : TS) : Prop where
  run : ∀ pins s σ H D, Inv X pins σ H s → t D σ H → _root_.PySem.wpAt (model X.prog X.w) X.A (.func body X.env) (execs sts X.env) (SP X pins D) X.xe s
/-- super().m(..), self the first name -/
def tSupM (C : Addr) (sp : Sp) (ta : TA) : TE := fun σ H Q => ∃ a dx fs, σ[0]? = some (some (.ref a)) ∧ H a = some (.ins C dx fs) ∧ ta σ H fun vs H2 => sp (.ref a :: vs) H2 Q E0
theorem pea_sup {self m : Str} {D C g : Addr} {k : Nat} {sp : Sp} {p0 p1 p2 : Pos} {es : List Expr} {ta : TA} {pl : Sem Bool} (S : SupF X.prog X.K X.mg X.env self D) (T : SupA X.K C D m g) (F : FnR X.prog X.w X.K X.mg X.base CX0 k g sp) (hr : Room k X.A) (hN : X.N[0]? = some self) (ha : PA X (e :: es) ta)
    (hev : eval (.Call (.Attribute (.Call (.Name "super" p0) [] [] p1) m p2) (e :: es) [] pos) X.env = (do
      let ov ← attributeBase (.Call (.Name "super" p0) [] [] p1) m X.env (eval (.Call (.Name "super" p0) [] [] p1) X.env)
      standAt p2.atName
      let (f, first) ← holding [ov] (getMethod ov m pl)
      callWith pos f first (backTo pos (starEach (e :: es) X.env)) []) := by rfl)
    (he : starEach (e :: es) X.env = (false, eval e X.env) :: starEach es X.env := by rfl) (hpl : (backTo pos (starEach es X.env)).any (·.1) = false := by rfl) :
    PEa X body (.Call (.Attribute (.Call (.Name "super" p0) [] [] p1) m p2) (e :: es) [] pos) (tSupM C sp ta) :=
  ⟨fun _ _ _ _ _ I ⟨_, _, _, h0, ea, h⟩ => sup_eval I S T F hr hN h0 ea ha h hev he hpl⟩
theorem pea_and (ha : PEa X body a ta) (hb : PE X (.BoolOp .And (b :: rest) pos) tb) : PEa X body (.BoolOp .And (a :: b :: rest) pos) (tAndV ta tb) := by
  refine ⟨fun pins s σ H Q I h => ?_⟩
  refine at_and (ks_wpAt_mono (ha.run pins s σ H _ I h) (fun v s1 ⟨x, H1, I1, r1, q1⟩ => ?_) fun _ _ z => z)
  obtain ⟨c, rfl, q1⟩ := q1
  cases r1
  refine wpAny_truthy_bool ?_
  cases c with
  | true => exact hb.run pins s1 σ H1 Q I1 q1
  | false => exact ⟨.bl false, H1, I1, rfl, q1⟩
theorem pta_val (h : PEa X body e te) (he : ∀ whole, isTrue e X.env whole = (do let v ← whole; standAt e.pos; holding [v] (truthy v)) := by intro _; rfl) : PTa X body e (tB te) := by
  refine ⟨fun pins s σ H Q I hw => ?_⟩
  rw [he]
  refine _root_.PySem.wpAt_bind (ks_wpAt_mono (h.run pins s σ H _ I hw) (fun v s1 ⟨x, H1, I1, r1, q1⟩ => wpAt_of_wpAny (wpAny_bind (wpAny_standAt (wpAny_holding ?_)))) fun _ _ z => z)
  obtain ⟨d, rfl, q⟩ := q1
  cases r1
  exact wpAny_truthy_bool ⟨H1, I1, q⟩
theorem pta_not (h : PTa X body a tA) : PTa X body (.UnaryOp .Not a pos) (tNot tA) := ⟨fun pins s σ H Q I hw => at_not (h.run pins s σ H (fun c H1 => Q (!c) H1) I hw)⟩
theorem pta_or (ha : PTa X body a tA) (hb : PW X (.BoolOp .Or (b :: rest) pos) tB') : PTa X body (.BoolOp .Or (a :: b :: rest) pos) (tOr tA tB') := by
  refine ⟨fun pins s σ H Q I h => ?_⟩
  refine at_or (ks_wpAt_mono (ha.run pins s σ H _ I h) (fun c s1 ⟨H1, I1, q1⟩ => ?_) fun _ _ z => z)
  cases c with
  | true => exact ⟨H1, I1, q1⟩
  | false => exact hb.run _ pins s1 σ H1 Q I1 q1
theorem psa_ret (h : PEa X body e te) : PSa X body (.Return (some e) pos) (tRet te) :=
  ⟨fun pins s σ H D I w => ks_wpAt_Return_some (ks_wpAt_mono (h.run pins s σ H _ I w) (fun v s1 ⟨x, H1, I1, r1, q1⟩ => ⟨x, σ, H1, I1, r1, q1⟩) fun _ _ z => z)⟩
theorem psa_if {c : Expr} {x y : List Stmt} {tc : TT} (hc : PTa X body c tc) (ha : PSs X x t) (hb : PSs X y u) : PSa X body (.If c x y pos) (tIfS tc t u) := by
  refine ⟨fun pins s σ H D I h => ?_⟩
  refine ks_wpAt_If (ks_wpAt_mono (hc.run pins s σ H _ I h) (fun d s1 ⟨H1, I1, q1⟩ => ?_) fun _ _ z => z)
  cases d with
  | true => exact wpAt_of_wpAny (ha.run pins s1 σ H1 D I1 q1)
  | false => exact wpAt_of_wpAny (hb.run pins s1 σ H1 D I1 q1)
theorem PSa.of (h : PS X st t) : PSa X body st t := ⟨fun pins s σ H D I w => wpAt_of_wpAny (h.run pins s σ H D I w)⟩
theorem PSsa.of (h : PSs X sts t) : PSsa X body sts t := ⟨fun pins s σ H D I w => wpAt_of_wpAny (h.run pins s σ H D I w)⟩
theorem pssa_cons (h : PSa X body st t) (hs : PSsa X body sts u) : PSsa X body (st :: sts) (tSeq t u) := by
  refine ⟨fun pins s σ H D I w => ?_⟩
  refine ks_wpAt_execs_cons (ks_wpAt_mono (h.run pins s σ H _ I w) (fun fl s1 hf => ?_) fun _ _ z => z)
  cases fl with
  | next =>
    obtain ⟨σ', H', J, q⟩ := hf
    exact hs.run pins s1 σ' H' D J q
  | brk => exact hf
  | cont => exact hf
  | ret u => exact hf
theorem pssa_one (h : PSa X body st t) : PSsa X body [st] t := by
  refine ⟨fun pins s σ H D I w => ?_⟩
  refine ks_wpAt_execs_cons (ks_wpAt_mono (h.run pins s σ H _ I w) (fun fl s1 hf => ?_) fun _ _ z => z)
  cases fl with
  | next => exact wpAt_of_wpAny (wpAny_execs_nil hf)
  | brk => exact hf
  | cont => exact hf
  | ret u => exact hf
end
section
variable {CX : CXT} {P : Program} {w : World} {K : PySem.W.Frag} {mg : Str → Option Value} {base : Heap} {k : Nat} {F : NF} {f cc D : Addr} {kV doc pm ct oc : Value} {an od : Option Addr} {osl : Array (Option Value)} {N ps : List Str} {sp : Sp}
/-- a def with the class's cell, whose body says super() -/
theorem fn_at (lk : K.lookup f = some ⟨oc, od, .func (PySem.W.fnX F.name F.qual F.params F.body F.scope F.cl .none kV doc pm an (.ref F.c) ct), osl⟩) (hcd : PySem.W.codeIn K (.ref F.c) F.qual = true) (hcl : F.cl = [(("__class__" : Str), cc)])
    (hcc : ∃ cl cld csl, K.lookup cc = some ⟨cl, cld, .cell (some (.ref D)), csl⟩) (S : NScope N ps ["__class__"] F.scope)
    (len : ∀ vs H Q E, sp vs H Q E → vs.length = ps.length)
    (hbody : ∀ (A : Around) (outer : List Env) (s : Shared) (H : Hp) (vs : List V) (Q : VK) (E : XK), Room k (A.deeper (envF F f s.heap.objs.size)) → sp vs H Q E →
      ∃ t : TS, PSsa (ncx CX P w K mg base N F f A outer s H E) F.body F.body t ∧ t { nx := fun _ H' => Q .non H', rt := Q } (startF N vs [none]) H) :
    FnOk P w K mg base CX (k + 1) f (PySem.W.fnX F.name F.qual F.params F.body F.scope F.cl .none kV doc pm an (.ref F.c) ct) ps sp := by
  refine ⟨len, fun A outer s H args us vs Q E hr e0 hb r hsp => ?_⟩
  have hl := len _ _ _ _ hsp
  have KX : K.In s.heap := e0.mod.kin.keeps fun b o e => (e0.bs b o e).1
  have lim : s.heap.NoLimit := e0.mod.nolimit.keeps fun b o e => (e0.bs b o e).1
  obtain ⟨cl, cld, csl, hcc⟩ := hcc
  have C : CellsAt F.cl ["__class__"] [none] s.heap H := by
    have one : ∀ {y : Str} {c : Addr}, F.cl.lookup y = some c → y = "__class__" ∧ c = cc := fun {y c} e => by
      rw [hcl] at e
      by_cases h : y = ("__class__" : Str)
      · subst h
        have e2 : some cc = some c := e
        exact ⟨rfl, (Option.some.inj e2).symm⟩
      · have h2 : (y == ("__class__" : Str)) = false := by simpa using h
        rw [List.lookup_cons, h2] at e
        cases e
    refine ⟨rfl, fun y c e => ?_, fun x y c e1 e2 => (one e1).1.trans (one e2).1.symm, fun i y hi => ?_⟩
    · rw [(one e).2]
      exact ⟨(e0.bs _ _ (e0.mod.kin _ _ hcc)).2, _, ⟨_, KX _ _ hcc, rfl⟩⟩
    · cases i with
      | zero =>
        have e : ("__class__" : Str) = y := Option.some.inj hi
        refine ⟨cc, by rw [hcl, ← e]; rfl, fun v hv => ?_⟩
        cases hv
      | succ i => cases hi
  refine ks_codeAny_call_defAt hr.depth (KX _ _ lk) rfl lim (PySem.W.codeRec_of KX hcd) rfl hb S.nocell (fun ⟨n, v⟩ hy => S.par n (List.of_mem_zip hy).1) (fun h₁ hns kp => ?_) S.co S.gen S.kind
  show _root_.PySem.wpAt (model P w) (A.deeper (envF F f s.heap.objs.size)) (.func F.body (envF F f s.heap.objs.size)) (execs F.body (envF F f s.heap.objs.size)) _ _ _
  obtain ⟨t, ps', hq⟩ := hbody A outer s H vs Q E (hr.deeper _) hsp
  have I : Inv (ncx CX P w K mg base N F f A outer s H E) [] (startF N vs [none]) H { s with heap := h₁, toks := s.toks + (ps.zip us).length } := inv_startN S hr.hd e0 hl r C hns kp
  have fin : ∀ {s' : Shared} {σ' : L2.St} {H' : Hp} {v : V} {u : Value}, Inv (ncx CX P w K mg base N F f A outer s H E) [] σ' H' s' → L2.RelV v u → Q v H' → CE outer P w H s Q u s' :=
    fun {s' σ' H' v u} J rv q => ⟨v, H', J.os, J.bare, J.base, J.hok, rv, q⟩
  refine ks_wpAt_mono (ps'.run [] _ (startF N vs [none]) H _ I hq) (fun fl s' hs => ?_) fun e s' hs => hs
  cases fl with
  | ret u =>
    obtain ⟨v, σ', H', J, rv, q⟩ := hs
    exact fin J rv q
  | next =>
    obtain ⟨σ', H', J, q⟩ := hs
    exact fin (v := V.non) (u := Value.none) J rfl q
  | brk =>
    obtain ⟨_, _, _, q⟩ := hs
    exact False.elim q
  | cont =>
    obtain ⟨_, _, _, q⟩ := hs
    exact False.elim q
end
end SupM
/-! sorted(xs), xs a list of data (alike tuples, ..), any length: the stable sort by the order of data. -/
namespace So
open PySem PySem.Spec PyProof.Rows L2 Bx TL Dx PySem.W
section
variable {X : Cx} {pins : List (Addr × Obj)} {σ : L2.St} {H : Hp} {s : Shared}
theorem each_of (I : Inv X pins σ H s) : ∀ {vs : List V} {us : List Value} {ds : List PyData}, DpAll X.K H vs ds → Vals vs us → EachIs (fun u d => (∃ v, Dp X.K H v d ∧ L2.RelV v u) ∧ ∃ as, Reads s.heap u d as) us ds
  | [], [], [], _, _ => .nil
  | v :: vs, u :: us, d :: ds, h, r => by
    cases h with
    | cons h1 h2 =>
      cases r with
      | cons r1 r2 => exact .cons ⟨⟨v, h1, r1⟩, Dp.reads I d v u h1 r1⟩ (each_of I h2 r2)
  | [], _ :: _, _, _, r => by cases r
  | _ :: _, [], _, _, r => by cases r
  | [], [], _ :: _, h, _ => by cases h
  | _ :: _, _ :: _, [], h, _ => by cases h
theorem each_back {K : Frag} : ∀ {us : List Value} {ds : List PyData}, EachIs (fun u d => ∃ v, Dp K H v d ∧ L2.RelV v u) us ds → ∃ vs, Vals vs us ∧ DpAll K H vs ds
  | _, _, .nil => ⟨[], .nil, .nil⟩
  | _, _, .cons ⟨v, h, r⟩ t => by
    obtain ⟨vs, r2, h2⟩ := each_back t
    exact ⟨v :: vs, .cons r r2, .cons h h2⟩
def dle : PyData → PyData → Bool := dataLe false id
def rSortD (K : Frag) : List V → Hp → VK → Prop := fun xs H Q => ∃ (a : Addr) (vs : List V) (ds : List PyData), xs = [V.ref a] ∧ SqL K H a vs ∧ DpAll K H vs ds ∧ AllAlike ds ∧ Sortable ds ∧ ds.length ≤ sizeLine ∧ (∀ d ∈ ds, d.depth ≤ 60) ∧
  ∀ (ys : List V) (p : Addr), H p = none → DpAll K H ys (ds.mergeSort dle) → Q (.ref p) (upd H p (.lst ys))
theorem cr_sortD (hu : X.A.units + 65 < cLine) : CallR X (.builtin "sorted") (rSortD X.K) := by
  intro pins s σ H xs us Q I r h
  obtain ⟨a, vs, ds, rfl, hs, hd, hal, hso, hz, hdp, q⟩ := h
  cases r with
  | cons r1 r2 =>
    cases r2
    cases r1
    obtain ⟨its, rv, hl, _⟩ := I.list hs
    have ea := each_of I hd rv
    refine sorted_data (bs := ds) (enc := id) (R := fun u d => ∃ v, Dp X.K H v d ∧ L2.RelV v u) hl.isList (ea.mono fun _ _ z => z.1) (ea.mono fun _ _ z => z.2) (by rw [List.map_id]; exact hal) (by rw [List.map_id]; exact hso) hz (fun d hd => ?_) fun out hlen eo => ?_
    · have := hdp d hd
      show X.A.units + 2 + d.depth < cLine
      omega
    · obtain ⟨ys, ry, dy⟩ := each_back eo
      obtain ⟨ep, he'⟩ := PyProof.Rows.sortedAll_at s.heap its out.toArray
      have hyl : ys.length = ds.length := by rw [ry.length, hlen]
      exact ⟨.ref _, upd H (s.heap.objs.size + 1) (.lst ys), I.laid (t' := s.toks) (fun _ _ => PyProof.Rows.sortedAll_old) (Nat.le_succ _) ⟨by rw [hyl]; exact hz, out, ep, ry, by simpa using he'⟩, rfl, q ys _ (I.hok.fresh (Nat.le_succ _)) dy⟩
end
end So
/-! Sets of nested tuples of ints and texts, fewer than 64 members: set(xs), sorted(..), `in`. -/
namespace Sd
open PySem PySem.Spec PyProof.Rows L2
abbrev NK := PySem.NestedKey
/-- the tuple at a is the key k -/
def Is8 (h : PySem.Heap) (k : NK) (a : Addr) : Prop := NestedIs h k (.ref a) ∧ k.depth ≤ 8
def ClsAt (P : Program) (w : World) (n : Nat) (s : Shared) (v : Value) : Prop := ∀ (A : Around) (E : Value → Shared → Prop) (Q : Bool → Shared → Prop), Q false s → wpAny (model P w) A (ofAClassStatement n v) Q E s
def HbvAt (P : Program) (w : World) (n : Nat) (s : Shared) (v : Value) : Prop := ∀ (A : Around) (E : Value → Shared → Prop) (Q : Bool → Shared → Prop), (∀ b, Q b s) → wpAny (model P w) A (hashByValue n v) Q E s
section
variable {P : Program} {w : World} {A : Around} {E : Value → Shared → Prop} {s : Shared}
theorem cls_pure {n : Nat} {v : Value} (e : ofAClassStatement n v = pure false) : ClsAt P w n s v := fun A E Q q => by
  rw [e]
  exact wpAny_pure q
theorem hbv_pure {n : Nat} {v : Value} {b : Bool} (e : hashByValue n v = pure b) : HbvAt P w n s v := fun A E Q q => by
  rw [e]
  exact wpAny_pure (q b)
theorem cls_tuple {n m : Nat} {a : Addr} {o : Obj} {vs : Array Value} (ho : s.heap.get? a = some o) (hc : o.cls = .type "tuple") (hd : o.data = .seq vs m) (all : ∀ v ∈ vs.toList, ClsAt P w n s v) : ClsAt P w (n + 1) s (.ref a) := fun A E Q q => by
  unfold ofAClassStatement
  refine wpAny_bind (wpAny_typeOf (show s.TypeIs (.ref a) "tuple" from ⟨o, ho, hc⟩) ?_)
  simp only [show (("tuple" : String) == "tuple") = true by decide, if_true, pure_bind, Bool.not_true, Bool.false_eq_true, if_false]
  refine wpAny_bind (wpAny_seqItems ho hd (wpAny_bind ?_))
  rw [← Array.forIn_toList]
  refine wpAny_forIn_list _ (fun left r s' => s' = s ∧ r.1 = none ∧ ∀ v ∈ left, ClsAt P w n s v) _ ?_ ?_ _ _ ⟨rfl, rfl, all⟩
  · rintro v left r s' ⟨rfl, e, rest⟩
    refine wpAny_bind (rest v (List.mem_cons_self ..) _ _ _ ?_)
    simp only [Bool.false_eq_true, if_false]
    exact wpAny_pure ⟨rfl, rfl, fun u hu => rest u (List.mem_cons_of_mem _ hu)⟩
  · rintro ⟨r, x⟩ s' ⟨rfl, e, _⟩
    simp only at e
    subst e
    exact wpAny_pure q
theorem hbv_tuple {n m : Nat} {a : Addr} {o : Obj} {vs : Array Value} (ho : s.heap.get? a = some o) (hc : o.cls = .type "tuple") (hd : o.data = .seq vs m) (all : ∀ v ∈ vs.toList, HbvAt P w n s v) : HbvAt P w (n + 1) s (.ref a) := fun A E Q q => by
  unfold hashByValue
  refine wpAny_bind (wpAny_specialOf (show s.TypeIs (.ref a) "tuple" from ⟨o, ho, hc⟩) F.slot_tuple_hash.lookup ?_)
  show wpAny _ _ (seqItems? (.ref a) >>= _) _ _ s
  refine wpAny_bind (wpAny_seqItems ho hd (wpAny_bind ?_))
  show wpAny _ _ (forIn vs _ _) _ _ s
  rw [← Array.forIn_toList]
  refine wpAny_forIn_list _ (fun left r s' => s' = s ∧ r.1 = none ∧ ∀ v ∈ left, HbvAt P w n s v) _ ?_ ?_ _ _ ⟨rfl, rfl, all⟩
  · rintro v left r s' ⟨rfl, e, rest⟩
    refine wpAny_bind (rest v (List.mem_cons_self ..) _ _ _ fun b => ?_)
    cases b with
    | true =>
      simp only [Bool.not_true, Bool.false_eq_true, if_false]
      exact wpAny_pure ⟨rfl, rfl, fun u hu => rest u (List.mem_cons_of_mem _ hu)⟩
    | false =>
      simp only [Bool.not_false, if_true]
      exact wpAny_pure (wpAny_pure (q false))
  · rintro ⟨r, x⟩ s' ⟨rfl, e, _⟩
    simp only at e
    subst e
    exact wpAny_pure (q true)
mutual
theorem cls_key : ∀ (k : NK) (v : Value) (n : Nat), NestedIs s.heap k v → k.depth ≤ n → ClsAt P w n s v
  | .none, _, n, x, _ => by
    cases x
    exact cls_pure (by cases n <;> rfl)
  | .num i, _, n, x, _ => by
    cases x <;> exact cls_pure (by cases n <;> rfl)
  | .text y, _, n, x, _ => by
    cases x
    exact cls_pure (by cases n <;> rfl)
  | .tup ks, _, n, x, hn => by
    cases x with
    | tup hg hc hd hk =>
      simp only [NestedKey.depth] at hn
      cases n with
      | zero => omega
      | succ n => exact cls_tuple hg hc hd (cls_keys ks _ n hk (by omega))
theorem cls_keys : ∀ (ks : List NK) (vs : List Value) (n : Nat), NestedAll s.heap ks vs → NestedKey.depthAll ks ≤ n → ∀ v ∈ vs, ClsAt P w n s v
  | [], _, n, x, _, v, hv => by
    cases x
    cases hv
  | k :: ks, _, n, x, hn, v, hv => by
    cases x with
    | cons x1 x2 =>
      simp only [NestedKey.depthAll] at hn
      rcases List.mem_cons.mp hv with e | hv
      · rw [e]
        exact cls_key k _ n x1 (by omega)
      · exact cls_keys ks _ n x2 (by omega) v hv
end
mutual
theorem hbv_key : ∀ (k : NK) (v : Value) (n : Nat), NestedIs s.heap k v → k.depth ≤ n → HbvAt P w n s v
  | .none, _, n, x, _ => by
    cases x
    exact hbv_pure (b := true) (by cases n <;> rfl)
  | .num i, _, n, x, _ => by
    cases x <;> exact hbv_pure (b := true) (by cases n <;> rfl)
  | .text y, _, n, x, _ => by
    cases x
    exact hbv_pure (b := false) (by cases n <;> rfl)
  | .tup ks, _, n, x, hn => by
    cases x with
    | tup hg hc hd hk =>
      simp only [NestedKey.depth] at hn
      cases n with
      | zero => omega
      | succ n => exact hbv_tuple hg hc hd (hbv_keys ks _ n hk (by omega))
theorem hbv_keys : ∀ (ks : List NK) (vs : List Value) (n : Nat), NestedAll s.heap ks vs → NestedKey.depthAll ks ≤ n → ∀ v ∈ vs, HbvAt P w n s v
  | [], _, n, x, _, v, hv => by
    cases x
    cases hv
  | k :: ks, _, n, x, hn, v, hv => by
    cases x with
    | cons x1 x2 =>
      simp only [NestedKey.depthAll] at hn
      rcases List.mem_cons.mp hv with e | hv
      · rw [e]
        exact hbv_key k _ n x1 (by omega)
      · exact hbv_keys ks _ n x2 (by omega) v hv
end
/-- looking such a key up shows nothing -/
theorem unseen {k : NK} {b : Addr} {Q : Bool → Shared → Prop} (hk : Is8 s.heap k b) {ys : List Value} (hy : ∀ y ∈ ys, ∃ k' c, y = Value.ref c ∧ Is8 s.heap k' c) (q : Q false s) : wpAny (model P w) A (searchCouldBeSeen (.ref b) ys) Q E s := by
  unfold searchCouldBeSeen
  refine wpAny_bind (wpAny_forIn_list _ (fun left r s' => s' = s ∧ r.1 = none ∧ ∀ y ∈ left, ∃ k' c, y = Value.ref c ∧ Is8 s.heap k' c) _ ?_ ?_ _ _ ⟨rfl, rfl, hy⟩)
  · rintro v left r s' ⟨rfl, e, all⟩
    obtain ⟨k', c, rfl, hc⟩ := all v (List.mem_cons_self ..)
    have rest : ∀ y ∈ left, ∃ k' c, y = Value.ref c ∧ Is8 s'.heap k' c := fun y hy => all y (List.mem_cons_of_mem _ hy)
    dsimp only
    by_cases hv : (b == c || (carriedByValue (.ref b) && carriedByValue (.ref c))) = true
    · refine wp_if_pos hv ?_
      exact wpAny_pure ⟨rfl, rfl, rest⟩
    · refine wp_if_neg hv ?_
      refine wpAny_bind ((nestedKind P w).quiet (show (nestedKind P w).is s'.heap k b from hk) ?_)
      simp only [Bool.not_true, Bool.false_eq_true, if_false]
      refine wpAny_bind ((nestedKind P w).quiet (show (nestedKind P w).is s'.heap k' c from hc) ?_)
      simp only [Bool.not_true, Bool.false_eq_true, if_false]
      refine wpAny_bind (cls_key k _ 8 hk.1 hk.2 _ _ _ ?_)
      simp only [Bool.false_eq_true, if_false]
      refine wpAny_bind (cls_key k' _ 8 hc.1 hc.2 _ _ _ ?_)
      simp only [Bool.false_eq_true, if_false]
      exact wpAny_pure ⟨rfl, rfl, rest⟩
  · rintro ⟨r, x⟩ s' ⟨rfl, e, _⟩
    simp only at e
    subst e
    exact wpAny_pure q
end
end Sd
namespace Sd
open PySem PySem.Spec PyProof.Rows L2
/-! ### the table -/
abbrev rowN (w : World) (p : Addr × NK) : Int × Value := (p.2.hash w, Value.ref p.1)
structure Ts (w : World) (h : PySem.Heap) (a : Addr) (L : List (Addr × NK)) (es : Array (Int × Value)) (ep : Nat) (t : SetTable) : Prop where
  obj : ∃ o, h.get? a = some o ∧ o.ExactSet ∧ o.data = .set es ep t
  row : es.toList = L.map (rowN w)
  tab : TabOk t (L.map fun p => p.2.hash w)
  one : (L.map (·.2)).Nodup
  mem : ∀ p ∈ L, Is8 h p.2 p.1
  led : w.params.followText "set-order" = true ∨ t.led = true
  free : L.length * 5 < t.mask * 3
  few : L.length < 64
/-- where the search for the hash h begins -/
abbrev beg (t : SetTable) (h : Int) : SetTable.Probe := runAt t.mask (SetTable.bits h % (t.mask + 1)) (SetTable.bits h)
section
variable {P : Program} {w : World} {A : Around} {E : Value → Shared → Prop} {s : Shared} {a : Addr} {L : List (Addr × NK)} {es : Array (Int × Value)} {ep : Nat} {t : SetTable}
theorem Ts.num (R : Ts w s.heap a L es ep t) : es.size = L.length := by
  have z := congrArg List.length R.row
  rwa [Array.length_toList, List.length_map] at z
theorem Ts.fit (R : Ts w s.heap a L es ep t) : t.fits es.size = true := by
  have z1 := R.tab.sz
  have z2 := R.num
  have z3 := R.free
  rw [List.length_map] at z1
  unfold SetTable.fits SetTable.fill
  rw [R.tab.dm, Bool.and_eq_true, beq_iff_eq, decide_eq_true_eq]
  show t.place.size = es.size ∧ t.place.size + 0 ≤ t.mask
  omega
theorem Ts.at (R : Ts w s.heap a L es ep t) {i : Nat} {p : Addr × NK} (e : L[i]? = some p) : es[i]? = some (rowN w p) := by
  rw [← Array.getElem?_toList, R.row, List.getElem?_map, e]
  rfl
theorem Ts.nogw (R : Ts w s.heap a L es ep t) : ¬ t.gaveWay = true := by
  unfold SetTable.gaveWay
  rw [mask_odd R.tab.mok]
  exact Bool.false_ne_true
theorem beg_quiet (m : Nat) : ∀ (n : Nat) (p : SetTable.Probe), p.dummy = none → (nth m p n).dummy = none
  | 0, _, h => h
  | n + 1, p, h => beg_quiet m n (adv m p) (by
    unfold adv
    split <;> exact h)
/-- from step c of the way on: found, or the first empty slot -/
theorem look_from (R : Ts w s.heap a L es ep t) {x : Addr} {k : NK} (hx : Is8 s.heap k x) (hu : A.units + 8 < cLine) {K : Nat} (K1 : K < 10 * SetTable.turns t.mask) (K2 : way t.mask (k.hash w) K ∉ t.place.toList) (K3 : ∀ c, c < K → way t.mask (k.hash w) c ∈ t.place.toList)
    {Q : SetFound → Shared → Prop} (yes : k ∈ L.map (·.2) → Q (.there none) s) (no : k ∉ L.map (·.2) → Q (.free (way t.mask (k.hash w) K) false) s) :
    ∀ (fuel c : Nat) (stand : Option SetTable.Probe), stand.getD (t.probeStart (k.hash w)) = nth t.mask (beg t (k.hash w)) c → c ≤ K → K - c < fuel →
      (∀ (i : Nat) p, L[i]? = some p → p.2 = k → ∃ d, c ≤ d ∧ d < K ∧ t.place.toList[i]? = some (way t.mask (k.hash w) d)) → wpAny (model P w) A (setSearchFrom a (.ref x) (k.hash w) true fuel stand) Q E s := by
  intro fuel
  induction fuel with
  | zero => exact fun c _ _ _ lt _ => absurd lt (Nat.not_lt_zero _)
  | succ fuel ih =>
    intro c stand est cK lt here
    obtain ⟨o, ho, hex, hd⟩ := R.obj
    have sum : ∀ q, nth t.mask (nth t.mask (beg t (k.hash w)) c) q = nth t.mask (beg t (k.hash w)) (c + q) := fun q => (nth_add t.mask c _ q).symm
    have wy : ∀ q, (nth t.mask (nth t.mask (beg t (k.hash w)) c) q).j = way t.mask (k.hash w) (c + q) := fun q => congrArg SetTable.Probe.j (sum q)
    have hsh : ∀ (i : Nat) p, L[i]? = some p → (es[i]?.map (·.1)).getD 0 = p.2.hash w := fun i p hp => by
      rw [R.at hp]
      rfl
    have met := go_spec t R.tab.ris R.tab.dm (fun i => (es[i]?.map (·.1)).getD 0) (k.hash w) (10 * SetTable.turns t.mask) (K - c) _ (beg_quiet t.mask c (beg t (k.hash w)) rfl) (by omega) (fun q hq => by rw [wy]; exact K3 _ (by omega)) (by rw [wy, show c + (K - c) = K by omega]; exact K2)
    rw [setSearchFrom_succ]
    refine wpAny_bind (wpAny_setState_of ho hd R.fit ?_)
    dsimp only
    refine wp_if_neg R.nogw ?_
    try refine wpAny_bind (wpAny_pure ?_)
    rcases met with ⟨q, i, hq, hi, hh, hno, pr⟩ | ⟨hno, pr⟩
    · have pr2 : t.probe (fun i => (es[i]?.map (·.1)).getD 0) (k.hash w) (stand.getD (t.probeStart (k.hash w))) = some (.candidate (way t.mask (k.hash w) (c + q)) i (nth t.mask (beg t (k.hash w)) (c + (q + 1)))) := by
        rw [est, ← wy, ← sum]
        exact pr
      rw [pr2]
      dsimp only
      rw [wy] at hi
      have iL : i < L.length := by
        have z1 := (List.getElem?_eq_some_iff.mp hi).1
        have z2 := R.tab.sz
        rw [List.length_map] at z2
        rw [Array.length_toList] at z1
        omega
      obtain ⟨p, hp⟩ : ∃ p, L[i]? = some p := ⟨_, List.getElem?_eq_getElem iL⟩
      have pm : p ∈ L := List.mem_of_getElem? hp
      have go : wpAny (model P w) A (searchRest a (.ref x) (k.hash w) true fuel es t (way t.mask (k.hash w) (c + q)) i (nth t.mask (beg t (k.hash w)) (c + (q + 1)))) Q E s := by
        unfold searchRest
        rw [R.at hp]
        dsimp only
        refine wpAny_bind (wpAny_holding ((nestedKind P w).eqBool (show A.units + 8 < cLine from hu) (show (nestedKind P w).is s.heap p.2 p.1 from R.mem p pm) (show (nestedKind P w).is s.heap k x from hx) ?_))
        refine wpAny_bind (wpAny_setState_of ho hd R.fit ?_)
        dsimp only
        by_cases e : p.2 = k
        · refine wp_if_pos (by simp [e]) ?_
          exact wpAny_pure (yes (List.mem_map.mpr ⟨p, pm, e⟩))
        · refine wp_if_neg (by simp [e]) ?_
          try refine wpAny_bind (wpAny_pure ?_)
          have live : t.slot (way t.mask (k.hash w) (c + q)) = .live i := slot_live R.tab.ris hi
          rw [sameMem]
          dsimp only
          simp only [if_true, live, R.at hp]
          refine wpAny_bind (wpAny_isSame_ref_self (wpAny_bind (wpAny_pure ?_)))
          simp only [if_true]
          refine wp_if_neg (by simp [e]) ?_
          refine ih (c + (q + 1)) _ rfl (by omega) (by omega) fun i' p' hp' e' => ?_
          obtain ⟨d, d1, d2, d3⟩ := here i' p' hp' e'
          refine ⟨d, Nat.not_lt.mp fun lt' => ?_, d2, d3⟩
          rcases Nat.lt_or_ge d (c + q) with z | z
          · exact hno (d - c) i' (by omega) (by rw [wy, show c + (d - c) = d by omega]; exact d3) ((hsh i' p' hp').trans (by rw [e']))
          · have ed : d = c + q := by omega
            rw [ed] at d3
            have live2 := slot_live R.tab.ris d3
            rw [live] at live2
            injection live2 with ei
            rw [← ei, hp] at hp'
            exact e (by rw [Option.some.inj hp']; exact e')
      by_cases hl : t.led = true
      · refine wp_if_neg (by simp [hl]) ?_
        try refine wpAny_bind (wpAny_pure ?_)
        exact go
      · refine wp_if_pos (by simp [hl]) ?_
        refine wpAny_bind (unseen hx (fun y hy => ?_) ?_)
        · obtain ⟨e, he, rfl⟩ := List.mem_map.mp hy
          have e1 : e ∈ es ∧ e.1 = k.hash w := by simpa using he
          have e2 : e ∈ es.toList := by simpa using e1.1
          rw [R.row] at e2
          obtain ⟨p', hp', rfl⟩ := List.mem_map.mp e2
          exact ⟨p'.2, p'.1, rfl, R.mem p' hp'⟩
        · refine wp_if_neg Bool.false_ne_true ?_
          try refine wpAny_bind (wpAny_pure ?_)
          exact go
    · have pr2 : t.probe (fun i => (es[i]?.map (·.1)).getD 0) (k.hash w) (stand.getD (t.probeStart (k.hash w))) = some (.empty (way t.mask (k.hash w) K) none) := by
        have z := wy (K - c)
        rw [show c + (K - c) = K by omega] at z
        rw [est, ← z]
        exact pr
      rw [pr2]
      dsimp only
      refine wpAny_pure (no fun hm => ?_)
      obtain ⟨p, pm, e⟩ := List.mem_map.mp hm
      obtain ⟨i, hp⟩ := List.mem_iff_getElem?.mp pm
      obtain ⟨d, d1, d2, d3⟩ := here i p hp e
      exact hno (d - c) i (by omega) (by rw [wy, show c + (d - c) = d by omega]; exact d3) ((hsh i p hp).trans (by rw [e]))
theorem look (R : Ts w s.heap a L es ep t) {x : Addr} {k : NK} (hx : Is8 s.heap k x) (hu : A.units + 8 < cLine) {Q : SetFound → Shared → Prop} (yes : k ∈ L.map (·.2) → Q (.there none) s)
    (no : ∀ K, k ∉ L.map (·.2) → way t.mask (k.hash w) K ∉ t.place.toList → (∀ c, c < K → way t.mask (k.hash w) c ∈ t.place.toList) → Q (.free (way t.mask (k.hash w) K) false) s) : wpAny (model P w) A (setSearch a (.ref x) (k.hash w) true) Q E s := by
  have z := R.free
  obtain ⟨K, K1, K2, K3⟩ := R.tab.first (by rw [List.length_map]; omega) (k.hash w)
  have small : 10 * SetTable.turns t.mask ≤ 1500 := by
    unfold SetTable.turns
    rcases R.tab.mok with e | e | e <;> omega
  unfold setSearch
  refine look_from R hx hu K1 K2 K3 yes (fun n => no K n K2 K3) 100000 0 none rfl (Nat.zero_le _) (by omega) fun i p hp e => ?_
  have hi : (L.map fun p => p.2.hash w)[i]? = some (k.hash w) := by
    rw [List.getElem?_map, hp, ← e]
    rfl
  have il : i < t.place.toList.length := by
    have z1 := (List.getElem?_eq_some_iff.mp hp).1
    have z2 := R.tab.sz
    rw [List.length_map] at z2
    rw [Array.length_toList]
    omega
  obtain ⟨j, hj⟩ : ∃ j, t.place.toList[i]? = some j := ⟨_, List.getElem?_eq_getElem il⟩
  obtain ⟨d, d1, d2⟩ := R.tab.before K2 hi hj
  exact ⟨d, Nat.zero_le _, d1, by rw [hj, d2]⟩
end
end Sd
namespace Sd
open PySem PySem.Spec PyProof.Rows L2
/-! ### the table laid anew; one key more -/
theorem range_get {α : Type} (L : List α) : ∀ n, n ≤ L.length → (List.range n).filterMap (fun i => L[i]?) = L.take n
  | 0, _ => rfl
  | n + 1, hn => by
    obtain ⟨x, e⟩ : ∃ x, L[n]? = some x := ⟨_, List.getElem?_eq_getElem hn⟩
    rw [List.range_succ, List.filterMap_append, range_get L n (Nat.le_of_succ_le hn), List.take_add_one, e]
    congr 1
    rw [List.filterMap_cons_some e]
    rfl
section
variable {P : Program} {w : World} {A : Around} {E : Value → Shared → Prop} {s : Shared} {a : Addr} {L : List (Addr × NK)} {es : Array (Int × Value)} {ep : Nat} {t : SetTable}
theorem ordered {order : Array Nat} (row : es.toList = L.map (rowN w)) (pm : order.toList.Perm (List.range L.length)) :
    ∃ M : List (Addr × NK), (order.filterMap (es[·]?)).toList = M.map (rowN w) ∧ M.Perm L ∧ (M.map fun p => p.2.hash w) = order.toList.map fun i => (es.map (·.1)).getD i 0 := by
  have ent : ∀ i : Nat, es[i]? = (L[i]?).map (rowN w) := fun i => by rw [← Array.getElem?_toList, row, List.getElem?_map]
  refine ⟨order.toList.filterMap (fun i => L[i]?), ?_, ?_, ?_⟩
  · rw [List.map_filterMap]
    have z : (order.filterMap (es[·]?)).toList = order.toList.filterMap (fun i => es[i]?) := by simp
    rw [z]
    congr 1
    funext i
    exact ent i
  · have z := pm.filterMap (fun i => L[i]?)
    rwa [range_get L L.length (Nat.le_refl _), List.take_length] at z
  · have all : ∀ i ∈ order.toList, i < L.length := fun i hi => List.mem_range.mp (pm.mem_iff.mp hi)
    revert all
    generalize order.toList = l
    intro all
    induction l with
    | nil => rfl
    | cons i l ih =>
      obtain ⟨p, hp⟩ : ∃ p, L[i]? = some p := ⟨_, List.getElem?_eq_getElem (all i (List.mem_cons_self ..))⟩
      have e1 : (es.map (·.1)).getD i 0 = p.2.hash w := by
        have z : (es.map (·.1))[i]? = some (p.2.hash w) := by
          rw [Array.getElem?_map, ent i, hp]
          rfl
        simp [Array.getD_eq_getD_getElem?, z]
      rw [List.filterMap_cons_some hp, List.map_cons, List.map_cons, ih fun j hj => all j (List.mem_cons_of_mem _ hj), e1]
theorem is8_but {h h' : PySem.Heap} {k : NK} {b : Addr} {o : Obj} (x : Is8 h k b) (ho : h.get? a = some o) (hd : o.data = .set es ep t) (sb : Heap.SameBut a h h') : Is8 h' k b :=
  ⟨NestedIs.at (fun c oc vs n hc hv => by
    refine (sb.2 c fun e => ?_).trans hc
    rw [e, ho] at hc
    cases hc
    rw [hd] at hv
    cases hv) k _ x.1, x.2⟩
theorem is8_keep {h h' : PySem.Heap} {k : NK} {b : Addr} (x : Is8 h k b) (kp : ∀ c o, h.get? c = some o → h'.get? c = some o) : Is8 h' k b := ⟨NestedIs.at (fun c o _ _ hc _ => kp c o hc) k _ x.1, x.2⟩
theorem relay {o : Obj} (ho : s.heap.get? a = some o) (hex : o.ExactSet) (hd : o.data = .set es ep t) (row : es.toList = L.map (rowN w)) (hsz : t.place.size = es.size) (hdm : t.dummies = #[]) (hfl : es.size ≤ t.mask) (one : (L.map (·.2)).Nodup) (mem : ∀ p ∈ L, Is8 s.heap p.2 p.1)
    (led : w.params.followText "set-order" = true ∨ t.led = true) (few : L.length < 64) {want M : Nat} (hw : SetTable.sizeAbove want - 1 = M) (hM : MaskOk M) (h128 : SetTable.sizeAbove want ≤ 128) (hn : L.length * 5 < M * 3) {Q : Unit → Shared → Prop}
    (q : ∀ h' L' es' ep' t', Heap.SameBut a s.heap h' → Ts w h' a L' es' ep' t' → L'.Perm L → Q () { s with heap := h' }) : wpAny (model P w) A (setRelay a want) Q E s := by
  have num : es.size = L.length := by
    have z := congrArg List.length row
    rwa [Array.length_toList, List.length_map] at z
  have fit : t.fits es.size = true := by
    unfold SetTable.fits SetTable.fill
    rw [hdm, Bool.and_eq_true, beq_iff_eq, decide_eq_true_eq]
    exact ⟨hsz, by show t.place.size + 0 ≤ t.mask; omega⟩
  obtain ⟨t', order, er, pm, T, em, el, _, _⟩ := relaid_ok t (hs := es.map (·.1)) (wanted := want) hw hM (by rw [Array.size_map, num]; omega)
  rw [Array.size_map, num] at pm
  obtain ⟨M', r1, r2, r3⟩ := ordered row pm
  have num2 : (order.filterMap (es[·]?)).size = es.size := by
    have z := congrArg List.length r1
    rw [Array.length_toList, List.length_map, r2.length_eq] at z
    rw [z, num]
  rw [← r3] at T
  rw [setRelay_eq]
  refine wpAny_bind (wpAny_setState_of ho hd fit ?_)
  dsimp only
  refine wp_if_neg (by rw [sizeLine_eq]; omega) ?_
  try refine wpAny_bind (wpAny_pure ?_)
  rw [er]
  dsimp only
  refine wpAny_bind (wp_if_neg (by rw [num2]; simp) ?_)
  try refine wpAny_bind (wpAny_pure ?_)
  refine wpAny_pure ?_
  dsimp only
  refine wpAny_storeSet_of ho hd ?_ (by rw [num2, num, sizeLine_eq]; omega)
  have sb : Heap.SameBut a s.heap (s.heap.update a (Obj.putSet (order.filterMap (es[·]?)) t')) := Heap.SameBut.update ..
  refine q _ M' _ (ep + 1) t' sb ⟨⟨_, store_at ho hd, ⟨hex.1, hex.2.1, hex.2.2⟩, rfl⟩, r1, T, (r2.map (·.2)).nodup_iff.mpr one, fun p hp => is8_but (mem p (r2.mem_iff.mp hp)) ho hd sb, by rw [el]; exact led, by rw [r2.length_eq, em]; exact hn, by rw [r2.length_eq]; exact few⟩ r2
theorem add1 (R : Ts w s.heap a L es ep t) {x : Addr} {k : NK} (hx : Is8 s.heap k x) (hu : A.units + 8 < cLine) (few : L.length + 1 < 64) {Q : Bool → Shared → Prop}
    (q : ∀ b h' L' es' ep' t', Heap.SameBut a s.heap h' → Ts w h' a L' es' ep' t' → (k ∈ L.map (·.2) → L' = L) → (k ∉ L.map (·.2) → L'.Perm ((x, k) :: L)) → Q b { s with heap := h' }) : wpAny (model P w) A (setAddHashed a (.ref x) (k.hash w)) Q E s := by
  obtain ⟨o, ho, hex, hd⟩ := R.obj
  have num := R.num
  have free := R.free
  unfold setAddHashed
  rw [show (100000 : Nat) = 99999 + 1 from rfl, setAddHashedIn_succ]
  refine wpAny_holding (wpAny_bind (wpAny_setState_of ho hd R.fit ?_))
  dsimp only
  refine wp_if_neg (by simp [byScan, Value.scannable]) ?_
  try refine wpAny_bind (wpAny_pure ?_)
  refine wpAny_bind (look R hx hu (fun hm => ?_) fun K hm K2 K3 => ?_)
  · dsimp only
    exact wpAny_pure (q false s.heap L es ep t (Heap.SameBut.refl a s.heap) R (fun _ => rfl) fun n => absurd hm n)
  dsimp only
  refine wpAny_bind (wpAny_setState_of ho hd R.fit ?_)
  dsimp only
  obtain ⟨p1, p2, p3, p4, p5, p6, p7, p8, p9⟩ := R.tab.put K2 K3
  generalize epp : t.put (way t.mask (k.hash w) K) = pp at p1 p3 p4 p5 p6 p7 p8 p9 ⊢
  obtain ⟨t1, j⟩ := pp
  dsimp only at p1 p3 p4 p5 p6 p7 p8 p9 ⊢
  subst p1
  -- what follows does not depend on `plain`
  have rest : ∀ t2 : SetTable, TabOk t2 ((L.map fun p => p.2.hash w).take (SetTable.below t.place (way t.mask (k.hash w) K)) ++ k.hash w :: (L.map fun p => p.2.hash w).drop (SetTable.below t.place (way t.mask (k.hash w) K))) → t2.mask = t.mask → t2.led = t.led → t2.fill = (L.map fun p => p.2.hash w).length + 1 →
      wpAny (model P w) A (do
        storeSet a (SetTable.insertAt es (SetTable.below t.place (way t.mask (k.hash w) K)) (k.hash w, Value.ref x)) t2
        if !false && t2.tooFull then setRelay a (SetTable.grown (es.size + 1))
        return true : Sem Bool) Q E s := by
    intro t2 T2 m2 l2 f2
    have ins : (SetTable.insertAt es (SetTable.below t.place (way t.mask (k.hash w) K)) (k.hash w, Value.ref x)).toList = (L.take (SetTable.below t.place (way t.mask (k.hash w) K)) ++ (x, k) :: L.drop (SetTable.below t.place (way t.mask (k.hash w) K))).map (rowN w) := by
      rw [SetTable.toList_insertAt, R.row, List.map_append, List.map_cons, List.map_take, List.map_drop]
    have hh : (L.take (SetTable.below t.place (way t.mask (k.hash w) K)) ++ (x, k) :: L.drop (SetTable.below t.place (way t.mask (k.hash w) K))).map (fun p => p.2.hash w) = (L.map fun p => p.2.hash w).take (SetTable.below t.place (way t.mask (k.hash w) K)) ++ k.hash w :: (L.map fun p => p.2.hash w).drop (SetTable.below t.place (way t.mask (k.hash w) K)) := by
      rw [List.map_append, List.map_cons, List.map_take, List.map_drop]
    rw [← hh] at T2
    have pm := put_perm L (SetTable.below t.place (way t.mask (k.hash w) K)) (x, k)
    generalize L.take (SetTable.below t.place (way t.mask (k.hash w) K)) ++ (x, k) :: L.drop (SetTable.below t.place (way t.mask (k.hash w) K)) = L1 at ins T2 pm
    have len1 : L1.length = L.length + 1 := pm.length_eq
    have num1 : (SetTable.insertAt es (SetTable.below t.place (way t.mask (k.hash w) K)) (k.hash w, Value.ref x)).size = L.length + 1 := by
      have z := congrArg List.length ins
      rwa [Array.length_toList, List.length_map, len1] at z
    generalize SetTable.insertAt es (SetTable.below t.place (way t.mask (k.hash w) K)) (k.hash w, Value.ref x) = es1 at ins num1 ⊢
    have one1 : (L1.map (·.2)).Nodup := (pm.map (·.2)).nodup_iff.mpr (by
      rw [List.map_cons]
      exact List.nodup_cons.mpr ⟨hm, R.one⟩)
    refine wpAny_bind (wpAny_storeSet_of ho hd ?_ (by rw [num1, sizeLine_eq]; omega))
    have sb : Heap.SameBut a s.heap (s.heap.update a (Obj.putSet es1 t2)) := Heap.SameBut.update ..
    have ho1 := store_at (es' := es1) (t' := t2) ho hd
    generalize s.heap.update a (Obj.putSet es1 t2) = h1 at sb ho1 ⊢
    have mem1 : ∀ p ∈ L1, Is8 h1 p.2 p.1 := fun p hp => by
      rcases List.mem_cons.mp (pm.mem_iff.mp hp) with e | hp
      · rw [e]
        exact is8_but hx ho hd sb
      · exact is8_but (R.mem p hp) ho hd sb
    have led1 : w.params.followText "set-order" = true ∨ t2.led = true := by
      rw [l2]
      exact R.led
    have full : t2.tooFull = true ↔ (L.length + 1) * 5 ≥ t2.mask * 3 := by
      unfold SetTable.tooFull
      rw [decide_eq_true_eq, f2, List.length_map]
    by_cases hf : t2.tooFull = true
    · have z := full.mp hf
      have two : (t.mask = 7 ∧ L.length = 4) ∨ (t.mask = 31 ∧ L.length = 18) := by
        rcases R.tab.mok with e | e | e <;> rw [m2, e] at z <;> rw [e] at free <;> omega
      have sz1 : t2.place.size = es1.size := by
        have z := T2.sz
        rw [List.length_map, len1] at z
        rw [z, num1]
      rw [num]
      have go : ∀ M, SetTable.sizeAbove (SetTable.grown (L.length + 1)) - 1 = M → MaskOk M → SetTable.sizeAbove (SetTable.grown (L.length + 1)) ≤ 128 → (L.length + 1) * 5 < M * 3 →
          wpAny (model P w) A (setRelay a (SetTable.grown (L.length + 1))) (fun _ s' => wpAny (model P w) A (pure true) Q E s') E { s with heap := h1 } := fun M g1 g2 g3 g4 =>
        relay (s := { s with heap := h1 }) ho1 ⟨hex.1, hex.2.1, hex.2.2⟩ rfl ins sz1 T2.dm (by rw [num1, m2]; rcases two with ⟨e, e2⟩ | ⟨e, e2⟩ <;> omega) one1 mem1 led1 (by rw [len1]; exact few) g1 g2 g3 (by rw [len1]; exact g4) fun h2 L2 es2 ep2 t3 sb2 R2 pm2 =>
          wpAny_pure (q true h2 L2 es2 ep2 t3 (sb.trans sb2) R2 (fun y => absurd y hm) fun _ => pm2.trans pm)
      have goal : wpAny (model P w) A (setRelay a (SetTable.grown (L.length + 1))) (fun _ s' => wpAny (model P w) A (pure true) Q E s') E { s with heap := h1 } := by
        rcases two with ⟨_, e⟩ | ⟨_, e⟩
        · exact go 31 (by rw [e, size_20]) (.inr (.inl rfl)) (by rw [e, size_20]; decide) (by omega)
        · exact go 127 (by rw [e, size_76]) (.inr (.inr rfl)) (by rw [e, size_76]; decide) (by omega)
      first
        | exact wp_if_pos (by simp [hf]) (wpAny_bind goal)
        | exact wpAny_bind (wp_if_pos (by simp [hf]) goal)
    · have fin := q true h1 L1 es1 (ep + 1) t2 sb ⟨⟨_, ho1, ⟨hex.1, hex.2.1, hex.2.2⟩, rfl⟩, ins, T2, one1, mem1, led1, by rw [len1]; have := mt full.mpr hf; omega, by rw [len1]; exact few⟩ (fun y => absurd y hm) fun _ => pm
      first
        | exact wp_if_neg (by simp [hf]) (wpAny_pure fin)
        | exact wpAny_bind (wp_if_neg (by simp [hf]) (wpAny_pure (wpAny_pure fin)))
  have hb : HbvAt P w 8 s (.ref x) := hbv_key k _ 8 hx.1 hx.2
  have off : TabOk { t1 with plain := false } ((L.map fun p => p.2.hash w).take (SetTable.below t.place (way t.mask (k.hash w) K)) ++ k.hash w :: (L.map fun p => p.2.hash w).drop (SetTable.below t.place (way t.mask (k.hash w) K))) := ⟨p3.ris, p3.dm, p3.sz, p3.mok, p3.bd, p3.reach⟩
  have both : ∀ b : Bool, wpAny (model P w) A (do
        storeSet a (SetTable.insertAt es (SetTable.below t.place (way t.mask (k.hash w) K)) (k.hash w, Value.ref x)) (if b then t1 else { t1 with plain := false })
        if !false && (if b then t1 else { t1 with plain := false }).tooFull then setRelay a (SetTable.grown (es.size + 1))
        return true : Sem Bool) Q E s := fun b => by
    cases b with
    | true => exact rest t1 p3 p4 p5 p9
    | false => exact rest { t1 with plain := false } off p4 p5 p9
  by_cases pl : t1.plain = true
  · first
      | exact wpAny_bind (wp_if_pos pl (hb _ _ _ both))
      | exact wp_if_pos pl (wpAny_bind (hb _ _ _ both))
  · first
      | exact wpAny_bind (wp_if_neg pl (wpAny_pure (both true)))
      | exact wp_if_neg pl (wpAny_bind (wpAny_pure (both true)))
      | exact wp_if_neg pl (both true)
end
end Sd
namespace Sd
open PySem PySem.Spec PyProof.Rows L2
/-! ### set(xs): the loop -/
/-- what the first i keys leave -/
structure Some1 (ks : List (Addr × NK)) (i : Nat) (L : List (Addr × NK)) : Prop where
  sub : ∀ p ∈ L, p ∈ ks.take i
  all : ∀ p ∈ ks.take i, p.2 ∈ L.map (·.2)
  len : L.length ≤ i
theorem some_zero (ks : List (Addr × NK)) : Some1 ks 0 [] := ⟨fun p hp => (by cases hp), fun p hp => (by simp at hp), Nat.le_refl _⟩
theorem some_next {ks L L' : List (Addr × NK)} {i : Nat} {x : Addr × NK} (g : Some1 ks i L) (e : ks[i]? = some x) (same : x.2 ∈ L.map (·.2) → L' = L) (more : x.2 ∉ L.map (·.2) → L'.Perm (x :: L)) : Some1 ks (i + 1) L' := by
  have et : ks.take (i + 1) = ks.take i ++ [x] := by
    rw [List.take_add_one, e]
    rfl
  by_cases c : x.2 ∈ L.map (·.2)
  · rw [same c]
    refine ⟨fun p hp => by rw [et]; exact List.mem_append_left _ (g.sub p hp), fun p hp => ?_, Nat.le_succ_of_le g.len⟩
    rw [et] at hp
    rcases List.mem_append.mp hp with z | z
    · exact g.all p z
    · rw [List.mem_singleton.mp z]
      exact c
  · have pm := more c
    refine ⟨fun p hp => ?_, fun p hp => ?_, by rw [pm.length_eq]; exact Nat.succ_le_succ g.len⟩
    · rw [et]
      rcases List.mem_cons.mp (pm.mem_iff.mp hp) with z | z
      · rw [z]
        exact List.mem_append_right _ (List.mem_singleton.mpr rfl)
      · exact List.mem_append_left _ (g.sub p z)
    · rw [(pm.map (·.2)).mem_iff, List.map_cons]
      rw [et] at hp
      rcases List.mem_append.mp hp with z | z
      · exact List.mem_cons_of_mem _ (g.all p z)
      · rw [List.mem_singleton.mp z]
        exact List.mem_cons_self ..
section
variable {P : Program} {w : World} {A : Around} {E : Value → Shared → Prop} {s : Shared}
theorem Ts.keep {h h' : PySem.Heap} {a : Addr} {L : List (Addr × NK)} {es : Array (Int × Value)} {ep : Nat} {t : SetTable} (R : Ts w h a L es ep t) (ka : ∀ o, h.get? a = some o → h'.get? a = some o) (km : ∀ p ∈ L, Is8 h' p.2 p.1) : Ts w h' a L es ep t := by
  obtain ⟨o, ho, r⟩ := R.obj
  exact ⟨⟨o, ka o ho, r⟩, R.row, R.tab, R.one, km, R.led, R.free, R.few⟩
theorem ts_new {h : PySem.Heap} {a : Addr} (ho : h.get? a = some (Sx.emptyObj w)) : Ts w h a [] #[] 0 (.fresh 0 0 (!w.params.followText "set-order")) where
  obj := ⟨_, ho, ⟨rfl, rfl, rfl⟩, rfl⟩
  row := rfl
  tab := ⟨List.Pairwise.nil, rfl, rfl, .inl rfl, (fun x hx => by cases hx), fun i h j hi => by simp at hi⟩
  one := List.nodup_nil
  mem := fun p hp => nomatch hp
  led := by
    show _ ∨ (!w.params.followText "set-order") = true
    cases w.params.followText "set-order"
    · exact .inr rfl
    · exact .inl rfl
  free := by
    show 0 * 5 < 7 * 3
    decide
  few := by
    show 0 < 64
    decide
theorem fill {I : Addr} {fp wr : List Addr} {G : Array GenState → Array GenState → Prop} {n : Nat} {Pv : Nat → Value → Prop} {St : Nat → Shared → Prop} {R : Result → Shared → Prop} (W : WalksS P w A.in1 I fp wr G n Pv St) (S : Addr) (nS : S ∉ fp) (ks : List (Addr × NK)) (hn : n = ks.length) (few : ks.length < 64)
    (val : ∀ i v, Pv i v → ∃ p, ks[i]? = some p ∧ v = .ref p.1) (h0 : PySem.Heap) (hk : ∀ p ∈ ks, Is8 h0 p.2 p.1) (hS : h0.get? S = none) (hw : ∀ b ∈ wr, h0.get? b = none) (hu : A.in1.units + 8 < cLine) :
    ∀ (r i : Nat) (s : Shared), n - i = r → i ≤ n → St i s → (∀ b o, h0.get? b = some o → s.heap.get? b = some o) → (∃ L es ep t, Ts w s.heap S L es ep t ∧ Some1 ks i L) →
      (∀ s' L es ep t, Moved (S :: wr) G s s' → Ts w s'.heap S L es ep t → Some1 ks n L → (∀ b o, h0.get? b = some o → s'.heap.get? b = some o) → R (.ok (.ret .none)) s') →
      codeAny (model P w) A (.builtin "set.update.loop" ⟨[.ref S, .ref I], []⟩) R s := by
  have nW : S ∉ wr := fun z => nS (W.sub _ z)
  have up : ∀ b ∈ wr, b ∈ S :: wr := fun b hb => List.mem_cons_of_mem _ hb
  have old : ∀ {s s' : Shared}, Moved wr G s s' → (∀ b o, h0.get? b = some o → s.heap.get? b = some o) → ∀ b o, h0.get? b = some o → s'.heap.get? b = some o := fun mv kp b o e => mv.heap b o (fun hb => by rw [hw b hb] at e; cases e) (kp b o e)
  intro r
  induction r with
  | zero =>
    intro i s er hi hst kp ⟨L, es, ep, t, hT, g⟩ fin
    have ei : i = n := by omega
    subst ei
    refine codeAny_builtin F.entry_set_update_loop ?_
    rw [Around.under_plainId F.plain_set_update_loop _]
    show wpAny _ A.in1 (pyNext (.ref I) >>= _) _ _ s
    refine wpAny_bind (W.done s _ _ hst fun s' mv => ?_)
    have kp' := old mv kp
    show wpAny _ A.in1 (ret Value.none) _ _ s'
    exact wpAny_pure (fin s' L es ep t (mv.mono up) (hT.keep (fun o e => mv.heap S o nW e) fun p hp => is8_keep (hk p (List.mem_of_mem_take (g.sub p hp))) kp') g kp')
  | succ r ih =>
    intro i s er hi hst kp ⟨L, es, ep, t, hT, g⟩ fin
    have lt : i < n := by omega
    refine codeAny_builtin F.entry_set_update_loop ?_
    rw [Around.under_plainId F.plain_set_update_loop _]
    show wpAny _ A.in1 (pyNext (.ref I) >>= _) _ _ s
    refine wpAny_bind (W.item i s _ _ lt hst fun v s' hv hst' mv => ?_)
    obtain ⟨p, hp, rfl⟩ := val i v hv
    have kp' := old mv kp
    have hT' : Ts w s'.heap S L es ep t := hT.keep (fun o e => mv.heap S o nW e) fun p hp => is8_keep (hk p (List.mem_of_mem_take (g.sub p hp))) kp'
    have hx : Is8 s'.heap p.2 p.1 := is8_keep (hk p (List.mem_of_getElem? hp)) kp'
    show wpAny _ A.in1 (holding [Value.ref p.1] (setAdd S (.ref p.1)) >>= _) _ _ s'
    unfold setAdd
    refine wpAny_bind (wpAny_holding (wpAny_holding (wpAny_bind ((nestedKind P w).pyHash (show A.in1.units + 8 < cLine from hu) (show (nestedKind P w).is s'.heap p.2 p.1 from hx) ?_))))
    refine add1 (s := { s' with toks := s'.toks + p.2.draws }) hT' hx hu (by have := g.len; omega) fun b h' L' es' ep' t' sb hT2 c1 c2 => ?_
    have g' := some_next g hp c1 c2
    have kp2 : ∀ b o, h0.get? b = some o → h'.get? b = some o := fun b o e => (sb.2 b (fun z => by rw [z, hS] at e; cases e)).trans (kp' b o e)
    refine wpAny_pure ⟨plainId_quiet F.plain_set_update_loop _, ih (i + 1) _ (by omega) lt (W.frame _ s' _ _ hst' (Nat.le_add_right _ _) fun b hb o e => ?_) kp2 ⟨L', es', ep', t', hT2, g'⟩ fun s2 L2 es2 ep2 t2 mv2 hT3 g2 kp3 => ?_⟩
    · rw [sb.2 b (fun z : b = S => nS (by rw [← z]; exact hb))]
      exact e
    · refine fin s2 L2 es2 ep2 t2 (Moved.trans W.gtrans ((mv.mono up).then_heap (Nat.le_add_right _ _) fun b o hb e => ?_) mv2) hT3 g2 kp3
      rw [sb.2 b (fun z : b = S => hb (by rw [z]; exact List.mem_cons_self ..))]
      exact e
end
end Sd
namespace Sd
open PySem PySem.Spec PyProof.Rows L2
section
variable {P : Program} {w : World} {A : Around} {E : Value → Shared → Prop} {s : Shared}
set_option maxRecDepth 100000 in
set_option maxHeartbeats 4000000 in
/-- set(xs), xs a list or a tuple of keys -/
theorem call_setN {l : Addr} {items : Array Value} (ks : List (Addr × NK)) {Q : Value → Shared → Prop} (hh : A.handled = none) (hl : s.heap.IsList l items ∨ s.heap.IsTuple l items) (hit : items.toList = ks.map fun p => Value.ref p.1) (hk : ∀ p ∈ ks, Is8 s.heap p.2 p.1) (few : ks.length < 64) (hu : A.units + 12 < cLine)
    (h : ∀ (h' : PySem.Heap) (tk : Nat) L es ep t, Ts w h' s.heap.objs.size L es ep t → Some1 ks ks.length L → (∀ b o, s.heap.get? b = some o → h'.get? b = some o) → Q (.ref s.heap.objs.size) { s with heap := h', toks := tk }) :
    wpAny (model P w) A (call (.type "set") [.ref l]) Q E s := by
  have hisz : items.size = ks.length := by
    have z := congrArg List.length hit
    rwa [Array.length_toList, List.length_map] at z
  have hval : ∀ (i : Nat) (v : Value), items[i]? = some v → ∃ p, ks[i]? = some p ∧ v = .ref p.1 := fun i v hv => by
    rw [← Array.getElem?_toList, hit, List.getElem?_map] at hv
    cases e : ks[i]? with
    | none =>
      rw [e] at hv
      cases hv
    | some p =>
      rw [e] at hv
      exact ⟨p, rfl, (Option.some.inj hv).symm⟩
  obtain ⟨c, tl, hmro⟩ := PySem.F.called_set.mro
  have hmade := PySem.F.called_set.made
  have hsub := PySem.F.called_set.sub
  refine wpAny_call (codeAny_of_tree ?_)
  show wpAny _ _ (callAny (.type "set") _) _ _ _
  refine wpAny_pure ⟨Code.quiet_builtin _ (by decide +kernel), codeAny_builtin PySem.F.entry_type_call ?_⟩
  rw [Around.under_plain (weight_type_call_type "set" [.ref l] []) rfl]
  have h1 := PySem.F.called_set.notType
  have h2 := PySem.F.called_set.canCreate
  have hct := PySem.F.typeCall_set_1 (.ref l)
  repeat (any_goals (first | assumption | wp_step))
  refine codeAny_mono (code_set_led1 (.ref l) (E := E) (Q₁ := fun obj s₁ => obj = .ref s.heap.objs.size ∧ s₁ = { s with heap := s.heap.push (Sx.emptyObj w) }) ⟨rfl, rfl⟩) fun r s₁ hr => ?_
  cases r with
  | error e => exact hr
  | ok fl =>
    cases fl with
    | ret obj =>
      obtain ⟨rfl, rfl⟩ := hr
      have hS : (s.heap.push (Sx.emptyObj w)).get? s.heap.objs.size = some (Sx.emptyObj w) := Heap.get?_push_size _ rfl
      have hT : Shared.TypeIs { s with heap := s.heap.push (Sx.emptyObj w) } (.ref s.heap.objs.size) "set" := ⟨_, hS, rfl⟩
      have hli := PySem.F.called_set.init.lookup
      have hbi := PySem.F.called_set.init.bind (.ref s.heap.objs.size)
      repeat (any_goals (first | assumption | wp_step))
      refine codeAny_mono (codeAny_call_builtin (R := wants (fun r s₂ => r = .none ∧ ∃ h' tk L es ep t, s₂ = { s with heap := h', toks := tk } ∧ Ts w h' s.heap.objs.size L es ep t ∧ Some1 ks ks.length L ∧
          (∀ b o, s.heap.get? b = some o → h'.get? b = some o)) E) PySem.F.called_set.init.plain PySem.F.entry_set_init (check_set_init_1 hT ?_)) fun r₂ s₂ hr₂ => ?_
      · have hh3 : A.in1.in1.in1.handled = none := by simp [hh]
        have hz1 : (s.heap.push (Sx.emptyObj w)).objs.size = s.heap.objs.size + 1 := Heap.size_push ..
        rcases hl with hl | hl
        · obtain ⟨ol, hol, hcl, nl, hdl⟩ := hl
          obtain ⟨ocls, odict, odata, oslots⟩ := ol
          simp only at hcl hdl
          subst hcl; subst hdl
          have hol' : (s.heap.push (Sx.emptyObj w)).get? l = some { cls := .type "list", dict := odict, data := .seq items nl, slots := oslots } := Heap.get?_push_of_some _ hol
          have hsls := PySem.F.sub_list_set
          have hslf := PySem.F.sub_list_frozenset
          have hne : (Value.type "list" == Value.type "dict") = false := by decide
          have hl1 : (s.heap.push (Sx.emptyObj w)).IsList l items := ⟨_, hol', rfl, nl, rfl⟩
          unfold Builtin.«set.__init__» noKeywords Builtin.Frozenset.updateFrom
          generalize hPI : pyIter = PI
          wp_walk
          subst hPI
          refine wpAny_pyIter_list hl1 ?_
          refine wpAny_bind (wpAny_runValue ?_)
          have hlS : l < s.heap.objs.size := Heap.lt_size hol
          have hneI : l ≠ (s.heap.push (Sx.emptyObj w)).objs.size := by
            rw [hz1]
            exact Nat.ne_of_lt (Nat.lt_succ_of_lt hlS)
          have hSf : s.heap.objs.size ∉ [(s.heap.push (Sx.emptyObj w)).objs.size, l] := by
            simp only [List.mem_cons, List.mem_singleton, List.not_mem_nil, or_false, not_or]
            rw [hz1]
            exact ⟨Nat.ne_of_lt (Nat.lt_succ_self _), Nat.ne_of_gt hlS⟩
          have hget : ((s.heap.push (Sx.emptyObj w)).push { cls := .type "list_iterator", data := .fields #[.ref l, .int 0 0] }).get? s.heap.objs.size = some (Sx.emptyObj w) := Heap.get?_push_of_some _ hS
          refine fill ((Walks.list hh3 _ l hneI items).toS) s.heap.objs.size hSf ks hisz few hval s.heap hk (Heap.get?_none_of_le (Nat.le_refl _)) (fun b hb => ?hw1) (by simp only [Around.in1_units]; omega) (items.size - 0) 0 _ (by omega) (Nat.zero_le _)
            ⟨⟨_, Heap.get?_push_size _ rfl, rfl, rfl⟩, (hl1.push _)⟩ (fun b o e => Heap.get?_push_of_some _ (Heap.get?_push_of_some _ e)) ⟨[], _, _, _, ts_new hget, some_zero ks⟩ ?hR1
          case hw1 =>
            rw [List.mem_singleton.mp hb, hz1]
            exact Heap.get?_none_of_le (Nat.le_succ _)
          case hR1 =>
            intro s' L es ep t hm hS' hmm hkk
            obtain ⟨h', g', d', tk', os'⟩ := s'
            have eg : g' = s.gens := hm.gens
            have ed : d' = s.drawn := hm.drawn
            have eo : os' = s.os := hm.os
            subst eg; subst ed; subst eo
            show wpAny _ _ _ _ _ _
            refine wpAny_pure ?_
            show wpAny _ _ (ret Value.none) _ _ _
            exact wpAny_pure ⟨rfl, h', tk', L, es, ep, t, rfl, hS', hisz ▸ hmm, hkk⟩
        · obtain ⟨ol, hol, hcl, nl, hdl⟩ := hl
          obtain ⟨ocls, odict, odata, oslots⟩ := ol
          simp only at hcl hdl
          subst hcl; subst hdl
          have hol' : (s.heap.push (Sx.emptyObj w)).get? l = some { cls := .type "tuple", dict := odict, data := .seq items nl, slots := oslots } := Heap.get?_push_of_some _ hol
          have hsls := PySem.F.sub_tuple_set
          have hslf := PySem.F.sub_tuple_frozenset
          have hne : (Value.type "tuple" == Value.type "dict") = false := by decide
          have hl1 : (s.heap.push (Sx.emptyObj w)).IsTuple l items := ⟨_, hol', rfl, nl, rfl⟩
          unfold Builtin.«set.__init__» noKeywords Builtin.Frozenset.updateFrom
          generalize hPI : pyIter = PI
          wp_walk
          subst hPI
          refine wpAny_pyIter_tuple hl1 ?_
          refine wpAny_bind (wpAny_runValue ?_)
          have hlS : l < s.heap.objs.size := Heap.lt_size hol
          have hneI : l ≠ (s.heap.push (Sx.emptyObj w)).objs.size := by
            rw [hz1]
            exact Nat.ne_of_lt (Nat.lt_succ_of_lt hlS)
          have hSf : s.heap.objs.size ∉ [(s.heap.push (Sx.emptyObj w)).objs.size, l] := by
            simp only [List.mem_cons, List.mem_singleton, List.not_mem_nil, or_false, not_or]
            rw [hz1]
            exact ⟨Nat.ne_of_lt (Nat.lt_succ_self _), Nat.ne_of_gt hlS⟩
          have hget : ((s.heap.push (Sx.emptyObj w)).push { cls := .type "tuple_iterator", data := .fields #[.ref l, .int 0 0] }).get? s.heap.objs.size = some (Sx.emptyObj w) := Heap.get?_push_of_some _ hS
          refine fill ((Walks.tuple hh3 _ l hneI items).toS) s.heap.objs.size hSf ks hisz few hval s.heap hk (Heap.get?_none_of_le (Nat.le_refl _)) (fun b hb => ?hw2) (by simp only [Around.in1_units]; omega) (items.size - 0) 0 _ (by omega) (Nat.zero_le _)
            ⟨⟨_, Heap.get?_push_size _ rfl, rfl, rfl⟩, (hl1.push _)⟩ (fun b o e => Heap.get?_push_of_some _ (Heap.get?_push_of_some _ e)) ⟨[], _, _, _, ts_new hget, some_zero ks⟩ ?hR2
          case hw2 =>
            rw [List.mem_singleton.mp hb, hz1]
            exact Heap.get?_none_of_le (Nat.le_succ _)
          case hR2 =>
            intro s' L es ep t hm hS' hmm hkk
            obtain ⟨h', g', d', tk', os'⟩ := s'
            have eg : g' = s.gens := hm.gens
            have ed : d' = s.drawn := hm.drawn
            have eo : os' = s.os := hm.os
            subst eg; subst ed; subst eo
            show wpAny _ _ _ _ _ _
            refine wpAny_pure ?_
            show wpAny _ _ (ret Value.none) _ _ _
            exact wpAny_pure ⟨rfl, h', tk', L, es, ep, t, rfl, hS', hisz ▸ hmm, hkk⟩
      · cases r₂ with
        | error e => exact hr₂
        | ok fl₂ =>
          cases fl₂ with
          | ret r =>
            obtain ⟨rfl, h', tk, L, es, ep, t, rfl, hS', hmm, hk'⟩ := hr₂
            repeat (any_goals (first | assumption | wp_step))
            exact h _ _ _ _ _ _ hS' hmm hk'
          | _ => exact hr₂.elim
    | _ => exact hr.elim
end
end Sd
/-! Sorting tuples of alike data, the empty tuple among them. -/
namespace Sd
open PySem PySem.Spec PyProof.Rows L2 PySem.W PySem.Calls
open PySem.SeqAt
def more : PyData → Bool
  | .tuple (_ :: _) => true
  | _ => false
section
variable {P : Program} {w : World} {A : Around} {E : Value → Shared → Prop} {s : Shared}
theorem call_tuple_lt {Q : Value → Shared → Prop} {l b : Addr} {items items2 : Array Value} {e r : Nat → Bool} (hl : s.heap.IsTuple l items) (hb : s.heap.IsTuple b items2)
    (he : ∀ j (h1 : j < items.size) (h2 : j < items2.size), EqAt A.in1 s items[j] items2[j] (e j)) (hr : ∀ j (h1 : j < items.size) (h2 : j < items2.size), e j = false → RcLt A.in1 s items[j] items2[j] (r j))
    (h : Q (.bool (firstLt e r (decide (items.size < items2.size)) (List.range (min items.size items2.size)))) s) : wpAny (model P w) A (call (.builtin "tuple.__lt__") [.ref l, .ref b]) Q E s := by
  obtain ⟨⟨cls, dd, data, sl⟩, ho, hc, n, hd⟩ := id hl
  obtain ⟨⟨cls2, dd2, data2, sl2⟩, ho2, hc2, n2, hd2⟩ := id hb
  simp only at hc hd hc2 hd2
  subst hc hd hc2 hd2
  exact call_meets F.slot_tuple_lt ⟨_, ho, rfl⟩ F.entry_tuple_lt (F.args_tuple_lt_2 _ _) (tuple_ltAt l b items items2 n n2 dd dd2 sl sl2 e r) ⟨ho, ho2, he, hr, h⟩
theorem oneLt_tup {xs ys : List PyData} {a b : Value} {as bs : List Addr} {Q : Bool → Shared → Prop} (ra : PySem.Reads s.heap a (.tuple xs) as) (rb : PySem.Reads s.heap b (.tuple ys) bs) (h : alike (.tuple xs) (.tuple ys) = true)
    (hu : A.units + min (PyData.tuple xs).depth (PyData.tuple ys).depth < cLine) (hq : Q (dataLt (.tuple xs) (.tuple ys)) s) : wpAny (model P w) A (oneLt' true a b) Q E s := by
  have hal : alikeAll xs ys = true := by simpa [alike] using h
  cases ra with
  | @tuple l o vs n _ as₁ h1 h2 h3 h4 =>
    cases rb with
    | @tuple l' o' vs' n' _ bs₁ k1 k2 k3 k4 =>
      have n1 : vs.size = xs.length := by simpa using SeqAt.ReadsAll.length _ _ _ h4
      have n2 : vs'.size = ys.length := by simpa using SeqAt.ReadsAll.length _ _ _ k4
      rw [dataLt_tuple, ← firstLt_toks xs ys hal, ← n1, ← n2] at hq
      rw [oneLt'_eq]
      simp only [if_true]
      refine wpAny_bind (wpAny_cRoomFor (room_here hu) ?_)
      refine wpAny_bind (wpAny_callSpecialIfBound?_slot (T := "tuple") ⟨_, h1, h2⟩ F.slot_tuple_lt (call_tuple_lt (e := pairEq xs ys) (r := fun j => dataLt (xs.getD j .none) (ys.getD j .none)) ⟨_, h1, h2, _, h3⟩ ⟨_, k1, k2, _, k3⟩ (fun j j1 j2 => ?_) (fun j j1 j2 hj => ?_) ?_))
      · have := eqAt_alikeAll xs ys A.in1 s vs.toList vs'.toList _ _ h4 k4 hal (room_in hu) j (by simpa using j1) (by simpa using j2)
        simpa using this
      · have := rcLt_alikeAll xs ys A.in1 s vs.toList vs'.toList _ _ h4 k4 hal (room_in hu) j (by simpa using j1) (by simpa using j2) hj
        simpa using this
      · exact wpAny_truthy_bool hq
theorem firsts {M : Model} {A : Around} {E : Value → Shared → Prop} {s : Shared} : ∀ {vs : List Value} {ds : List PyData}, EachIs (fun v d => ∃ as, PySem.Reads s.heap v d as) vs ds → (∀ d ∈ ds, ∃ xs, d = .tuple xs) → ∀ {Q : List (Option Value) → Shared → Prop}, (∀ os : List (Option Value), os.map (·.isSome) = ds.map more → Q os s) → wpAny M A (vs.mapM firstOfTuple') Q E s
  | _, _, .nil, _, _, h => by
    rw [List.mapM_nil]
    exact wpAny_pure (h [] rfl)
  | _, _, .cons (a := v) (b := d) (as := vs) (bs := ds) ⟨as, r⟩ t, ht, Q, h => by
    obtain ⟨xs, rfl⟩ := ht d (List.mem_cons_self ..)
    cases r with
    | @tuple a o us n _ _ ho hc hd hr =>
      rw [List.mapM_cons]
      refine wpAny_bind ?_
      rw [kas_first_eq]
      refine wpAny_bind (Looks.here (show Looks M s.heap (typeOf (.ref a)) o.cls from (Looks.ld ho).andThen .now) ?_)
      rw [hc, if_neg (by first | decide | simp)]
      refine wpAny_bind (listItems_at ho hd (wpAny_pure ?_))
      refine wpAny_bind (firsts t (fun d hd => ht d (List.mem_cons_of_mem _ hd)) fun os eos => wpAny_pure (h _ ?_))
      have hn : us.size = xs.length := by simpa using SeqAt.ReadsAll.length _ _ _ hr
      have e1 : (us[0]?).isSome = more (.tuple xs) := by
        cases xs with
        | nil =>
          have z : us.size = 0 := hn
          rw [Array.getElem?_eq_none (by omega)]
          rfl
        | cons x xs =>
          have z : 0 < us.size := by
            rw [hn]
            exact Nat.succ_pos _
          rw [Array.getElem?_eq_getElem z]
          rfl
      rw [List.map_cons, List.map_cons, eos, e1]
theorem kind_of {M : Model} {A : Around} {E : Value → Shared → Prop} {s : Shared} {vs : List Value} {ds : List PyData} (e : EachIs (fun v d => ∃ as, PySem.Reads s.heap v d as) vs ds) (ht : ∀ d ∈ ds, ∃ xs, d = .tuple xs) (hne : ds.all more = false) {Q : SortKind → Shared → Prop}
    (h : Q (if (ds.map more).head? = some true then general' else oneType') s) : wpAny M A (keyKind' vs.toArray) Q E s := by
  rw [kat_kind_eq, List.mapM_toArray, map_eq_pure_bind]
  refine wpAny_bind (wpAny_bind (firsts e ht fun os eos => wpAny_pure ?_))
  have h1 : (os.toArray.all fun x => x.isSome) = false := by
    rw [List.all_toArray]
    have z : os.all (fun x => x.isSome) = (os.map (·.isSome)).all id := by
      rw [List.all_map]
      rfl
    rw [z, eos, List.all_map]
    exact hne
  rw [if_neg (by rw [h1]; exact Bool.false_ne_true)]
  have h2 : ((os.toArray[0]?).bind id).isSome = true ↔ (ds.map more).head? = some true := by
    rw [← eos]
    cases os with
    | nil => simp
    | cons o os =>
      cases o <;> simp
  by_cases c : (ds.map more).head? = some true
  · rw [if_pos c] at h
    rw [if_pos (h2.mpr c)]
    exact wpAny_pure h
  · rw [if_neg c] at h
    rw [if_neg (fun z => c (h2.mp z))]
    have hT : ∀ v ∈ vs, Looks M s.heap (typeOf v) (Value.type "tuple") := fun v hv => by
      obtain ⟨d, hd, as, r⟩ := e.left v hv
      obtain ⟨xs, rfl⟩ := ht d hd
      exact looks_reads r
    have hv : vs ≠ [] := by
      rintro rfl
      cases e
      exact absurd hne (by decide)
    rw [oneTypeOnly'_eq, List.mapM_toArray, map_eq_pure_bind]
    refine wpAny_bind (wpAny_bind (wpAny_bind (kas_mapM (r := Value.type "tuple") _ (fun v hv Q' hq => (hT v hv).here hq) (wpAny_pure ?_))))
    have hall2 : ((List.map (fun _ => Value.type "tuple") vs).toArray.all fun x => x == Value.type "tuple") = true := by
      simp only [List.all_toArray, List.all_map, List.all_eq_true]
      intro _ _
      rfl
    have h0 : (List.map (fun _ => Value.type "tuple") vs).toArray[0]? = some (Value.type "tuple") := by
      cases vs with
      | nil => exact absurd rfl hv
      | cons v vs => simp
    rw [h0]
    simp only [hall2, if_true]
    exact wpAny_pure (wpAny_pure h)
theorem sorts_tups {vs : List Value} {ds : List PyData} (e : EachIs (fun v d => ∃ as, PySem.Reads s.heap v d as) vs ds) (hal : AllAlike ds) (ht : ∀ d ∈ ds, ∃ xs, d = .tuple xs) (hu : ∀ d, d ∈ ds → A.units + d.depth < cLine) : SortsAt P w A s (dataKind s.heap ds) vs := by
  have room : ∀ {d d' : PyData}, d ∈ ds → A.units + min d.depth d'.depth < cLine := fun {d d'} hd => Nat.lt_of_le_of_lt (Nat.add_le_add_left (Nat.min_le_left _ _) _) (hu d hd)
  by_cases hne : ds.all more = true
  · refine SortsAt.data e hal (.inl fun d hd => ?_) hu
    have z := List.all_eq_true.mp hne d hd
    obtain ⟨xs, rfl⟩ := ht d hd
    cases xs with
    | nil => exact absurd z (by decide)
    | cons x xs => exact ⟨x, xs, rfl⟩
  · refine ⟨fun v hv => ?_, if (ds.map more).head? = some true then general' else oneType', ?_, fun _ E Q hq => kind_of e ht (by simpa using hne) hq⟩
    · obtain ⟨d, hd, as, r⟩ := e.left v hv
      exact ⟨_, dataKind_some hal hd r⟩
    · intro E x y a b Q ha hb hq
      obtain ⟨d, as, hd, ra, rfl⟩ := dataKind_inv ha
      obtain ⟨d', as', hd', rb, rfl⟩ := dataKind_inv hb
      have hdd := hal d hd d' hd'
      have hroom := room (d' := d') hd
      obtain ⟨xs, rfl⟩ := ht d hd
      obtain ⟨ys, rfl⟩ := ht d' hd'
      by_cases c : (ds.map more).head? = some true
      · rw [if_pos c]
        show wpAny (model P w) A (oneLt' false x y) Q E s
        exact oneLt_alike (fun z => nomatch z) ra rb hdd (fun z => nomatch z) hroom hq
      · rw [if_neg c, keyLt'_oneType]
        exact oneLt_tup ra rb hdd hroom hq
variable {β : Type} {vs : List Value} {bs : List β} {enc : β → PyData} {R : Value → β → Prop}
/-- xs.sort() -/
theorem list_sort_tups {a : Addr} {n : Nat} {Q : Value → Shared → Prop} (ho : s.heap.get? a = some (seqObj "list" vs.toArray n)) (e : EachIs R vs bs) (er : EachIs (fun v b => ∃ as, PySem.Reads s.heap v (enc b) as ∧ a ∉ as) vs bs) (hal : AllAlike (bs.map enc)) (ht : ∀ b ∈ bs, ∃ xs, enc b = .tuple xs) (hL : bs.length ≤ sizeLine)
    (hu : ∀ b, b ∈ bs → A.units + 1 + (enc b).depth < cLine) (h : ∀ out, out.length = bs.length → EachIs R out (bs.mergeSort (dataLe false enc)) → Q .none { s with heap := sortedHeap s.heap a vs (List.toArray out) }) :
    wpAny (model P w) A (call (.builtin "list.sort") [.ref a]) Q E s := by
  have er' : EachIs (fun v b => ∃ as, PySem.Reads (sortingHeap s.heap a vs) v (enc b) as) vs bs := each_keepBut (h' := sortingHeap s.heap a vs) (fun _ _ hb q => sortingHeap_old hb q) (fun o q => by rw [ho] at q; rw [← Option.some.inj q]) hal er
  refine wpAny_call_entry slot_list_sort ⟨_, ho, rfl⟩ entry_list_sort (list_sort_vals (κ := dataKind (sortingHeap s.heap a vs) (bs.map enc)) ho (sorts_tups (s := { s with heap := sortingHeap s.heap a vs }) (each_map (R := fun v d => ∃ as, PySem.Reads (sortingHeap s.heap a vs) v d as) enc er') hal (fun d hd => ?_) (bound_map hu)) (by rw [e.length]; exact hL) ⟨.none, rfl, ?_⟩) (args_list_sort _)
  · obtain ⟨b, hb, rfl⟩ := List.mem_map.mp hd
    exact ht b hb
  · exact h _ (by rw [sortVals_length false rfl]; exact e.length) (sortVals_data false e er' hal)
end
end Sd
/-! Sets of nested tuples over the layer: set(xs), sorted(set). -/
namespace Sd
open PySem PySem.Spec PyProof.Rows L2 Bx TL Dx PySem.W PySem.Calls
mutual
/-- the key that a datum is -/
def nk : PyData → NK
  | .int i => .num i
  | .str x => .text x
  | .tuple xs => .tup (nks xs)
  | _ => .none
def nks : List PyData → List NK
  | [] => []
  | d :: ds => nk d :: nks ds
end
mutual
/-- made of whole numbers, texts and tuples -/
def plain : PyData → Bool
  | .int _ => true
  | .str _ => true
  | .tuple xs => plains xs
  | _ => false
def plains : List PyData → Bool
  | [] => true
  | d :: ds => plain d && plains ds
end
mutual
theorem nk_inj : ∀ (d e : PyData), plain d = true → plain e = true → nk d = nk e → d = e
  | .int i, e, _, he, h => by
    cases e <;> first | (simp only [nk] at h; cases h; rfl) | (simp only [nk] at h; cases h; done) | (simp only [plain] at he; cases he; done)
  | .str i, e, _, he, h => by
    cases e <;> first | (simp only [nk] at h; cases h; rfl) | (simp only [nk] at h; cases h; done) | (simp only [plain] at he; cases he; done)
  | .tuple xs, e, hd, he, h => by
    cases e with
    | tuple ys =>
      simp only [nk, NestedKey.tup.injEq] at h
      simp only [plain] at hd he
      rw [nks_inj xs ys hd he h]
    | _ => first | (simp only [nk] at h; cases h; done) | (simp only [plain] at he; cases he; done)
  | .none, _, hd, _, _ => by simp [plain] at hd
  | .bool _, _, hd, _, _ => by simp [plain] at hd
  | .list _, _, hd, _, _ => by simp [plain] at hd
  | .dict _, _, hd, _, _ => by simp [plain] at hd
theorem nks_inj : ∀ (ds es : List PyData), plains ds = true → plains es = true → nks ds = nks es → ds = es
  | [], [], _, _, _ => rfl
  | [], _ :: _, _, _, h => by simp [nks] at h
  | _ :: _, [], _, _, h => by simp [nks] at h
  | d :: ds, e :: es, hd, he, h => by
    simp only [nks, List.cons.injEq] at h
    simp only [plains, Bool.and_eq_true] at hd he
    rw [nk_inj d e hd.1 he.1 h.1, nks_inj ds es hd.2 he.2 h.2]
end
mutual
theorem is_nk {h : PySem.Heap} : ∀ (d : PyData) (v : Value) (as : List Addr), plain d = true → PySem.Reads h v d as → NestedIs h (nk d) v ∧ as = []
  | .int _, _, _, _, r => by
    cases r
    exact ⟨.int _ _, rfl⟩
  | .str _, _, _, _, r => by
    cases r
    exact ⟨.text _ _, rfl⟩
  | .tuple xs, _, _, hd, r => by
    simp only [plain] at hd
    cases r with
    | tuple h1 h2 h3 h4 =>
      obtain ⟨q1, q2⟩ := is_nks xs _ _ hd h4
      exact ⟨.tup h1 h2 h3 q1, q2⟩
  | .none, _, _, hd, _ => by simp [plain] at hd
  | .bool _, _, _, hd, _ => by simp [plain] at hd
  | .list _, _, _, hd, _ => by simp [plain] at hd
  | .dict _, _, _, hd, _ => by simp [plain] at hd
theorem is_nks {h : PySem.Heap} : ∀ (ds : List PyData) (vs : List Value) (as : List Addr), plains ds = true → PySem.ReadsAll h vs ds as → NestedAll h (nks ds) vs ∧ as = []
  | [], _, _, _, r => by
    cases r
    exact ⟨.nil, rfl⟩
  | d :: ds, _, _, hd, r => by
    simp only [plains, Bool.and_eq_true] at hd
    cases r with
    | cons r1 r2 =>
      obtain ⟨q1, q2⟩ := is_nk d _ _ hd.1 r1
      obtain ⟨q3, q4⟩ := is_nks ds _ _ hd.2 r2
      exact ⟨.cons q1 q3, by rw [q2, q4]; rfl⟩
end
/-- a tuple made of such data, not deep -/
def K8 (d : PyData) : Prop := (∃ xs, d = .tuple xs) ∧ plain d = true ∧ (nk d).depth ≤ 8 ∧ d.depth ≤ 60
theorem perm_each {α β : Type} {R : α → β → Prop} {out its : List α} (pm : out.Perm its) : ∀ {ds : List β}, EachIs R its ds → ∃ es : List β, es.Perm ds ∧ EachIs R out es := by
  induction pm with
  | nil => exact fun e => ⟨_, List.Perm.refl _, e⟩
  | cons x p ih =>
    intro ds e
    cases e with
    | cons h t =>
      obtain ⟨es, q1, q2⟩ := ih t
      exact ⟨_ :: es, q1.cons _, .cons h q2⟩
  | swap x y l =>
    intro ds e
    cases e with
    | cons h t =>
      cases t with
      | cons h2 t2 => exact ⟨_ :: _ :: _, List.Perm.swap _ _ _, .cons h2 (.cons h t2)⟩
  | trans p q ih1 ih2 =>
    intro ds e
    obtain ⟨es, a1, a2⟩ := ih2 e
    obtain ⟨fs, b1, b2⟩ := ih1 a2
    exact ⟨fs, b1.trans a1, b2⟩
section
variable {P : Program} {w : World} {A : Around} {E : Value → Shared → Prop} {s : Shared} {a : Addr} {L : List (Addr × NK)} {es : Array (Int × Value)} {ep : Nat} {t : SetTable}
theorem sorted_setN {Rl : Value → PyData → Prop} {ds : List PyData} {Q : Value → Shared → Prop} (T : Ts w s.heap a L es ep t) (hh : A.handled = none) (hu : A.units + 65 < cLine)
    (e : EachIs Rl (L.map fun p => Value.ref p.1) ds) (er : EachIs (fun u d => ∃ as, PySem.Reads s.heap u d as) (L.map fun p => Value.ref p.1) ds) (hal : AllAlike ds) (hk : ∀ d ∈ ds, K8 d)
    (hQ : ∀ s' p (out : List Value) (c : Nat) (fs : List PyData), (∀ b o, s.heap.get? b = some o → s'.heap.get? b = some o) → s'.gens = s.gens → s'.os = s.os → s.heap.objs.size ≤ p →
      s'.heap.get? p = some (seqObj "list" out.toArray c) → fs.Perm ds → EachIs Rl out (fs.mergeSort (dataLe false id)) → Q (.ref p) s') :
    wpAny (model P w) A (call (.builtin "sorted") [.ref a]) Q E s := by
  obtain ⟨o, ho, hex, hd⟩ := T.obj
  have hn := T.num
  have hfew := T.few
  have hsb : scanBound = 4096 := rfl
  have hva : es.toList.map (·.2) = L.map fun p => Value.ref p.1 := by
    rw [T.row, List.map_map]
    rfl
  refine Calls.call_function_entry kind_sorted plain_sorted entry_sorted (args_sorted1 _) ?_
  unfold Builtin.«sorted»
  refine wpAny_bind (m := checkCount "sorted" 1 1 _) (wpAny_pure ?_)
  refine wpAny_bind (collect_set (A := A.in1) hh ⟨_, ho, hex.1, hd⟩ T.fit (by rw [hn]; omega) T.tab.ris T.led fun s1 vs k1 hz g1 o1 pm => ?_)
  rw [hva] at pm
  have both : EachIs (fun u d => Rl u d ∧ ∃ as, PySem.Reads s.heap u d as) (L.map fun p => Value.ref p.1) ds := by
    clear hQ hal hk hva
    revert e er
    generalize (L.map fun p => Value.ref p.1) = us
    intro e er
    clear pm
    induction e with
    | nil => exact .nil
    | cons h t ih =>
      cases er with
      | cons r1 r2 => exact .cons ⟨h, r1⟩ (ih r2)
  obtain ⟨fs, pf, ef⟩ := perm_each pm both
  have hfl : fs.length = L.length := by rw [pf.length_eq, ← e.length, List.length_map]
  have hvl : vs.length = L.length := by rw [pm.length_eq, List.length_map]
  have hline : vs.length ≤ sizeLine := by
    rw [hvl, sizeLine_eq]
    omega
  refine wpAny_bind (wpAny_newList ?_ hline)
  have hoL : (s1.heap.push (seqObj "list" vs.toArray 0)).get? s1.heap.objs.size = some (seqObj "list" vs.toArray 0) := Heap.get?_push_size _ rfl
  have mfs : ∀ d ∈ fs, d ∈ ds := fun d hd => pf.mem_iff.mp hd
  have kp : ∀ b u, s.heap.get? b = some u → (s1.heap.push (seqObj "list" vs.toArray 0)).get? b = some u := fun b u q => Heap.get?_push_of_some _ (k1 b u q)
  refine wpAny_bind (wpAny_holding (list_sort_tups (R := Rl) (enc := id) (bs := fs) hoL (ef.mono fun _ _ z => z.1) ?reads (by rw [List.map_id]; exact fun d hd d' hd' => hal d (mfs d hd) d' (mfs d' hd')) (fun d hd => (hk d (mfs d hd)).1) (by rw [hfl, sizeLine_eq]; omega) (fun d hd => ?room) fun out hout eo => ?done))
  case reads =>
    refine (each_mem ef).mono fun u d z => ?_
    obtain ⟨as, r⟩ := z.1.2
    have z0 := (is_nk d u as (hk d (mfs d z.2)).2.1 r).2
    exact ⟨as, PyProof.Rows.Reads.keeps kp r, by rw [z0]; exact List.not_mem_nil⟩
  case room =>
    have z := (hk d (mfs d hd)).2.2.2
    show A.in1.units + 1 + d.depth < cLine
    simp only [Around.in1_units]
    omega
  case done =>
    obtain ⟨c, hc⟩ := sortedHeap_at (vs := vs) (out := out.toArray) hoL
    refine wpAny_pure ⟨_, rfl, hQ _ s1.heap.objs.size out c fs (fun b u q0 => ?_) g1 o1 hz hc pf eo⟩
    have q := k1 b u q0
    have hlt := Heap.lt_size q
    show (sortedHeap (s1.heap.push (seqObj "list" vs.toArray 0)) s1.heap.objs.size vs _).get? b = some u
    rw [sortedHeap_old (Nat.ne_of_lt hlt) (by rw [size_push']; exact Nat.lt_succ_of_lt hlt)]
    exact Heap.get?_push_of_some _ q
end
/-! ### over the layer -/
def SetN (w : World) (a : Addr) (L : List (Addr × NK)) : HO := .ext fun h => ∃ h0 es ep t, Ts w h0 a L es ep t ∧ ∀ o, h0.get? a = some o → h.get? a = some o
section
variable {X : Cx} {pins : List (Addr × Obj)} {σ : L2.St} {H : Hp} {s : Shared}
theorem setN_ok {P : Program} {w : World} {h : PySem.Heap} {a : Addr} {L : List (Addr × NK)} {es : Array (Int × Value)} {ep : Nat} {t : SetTable} (R : Ts w h a L es ep t) : ObjOk P w H h a (SetN w a L) := by
  obtain ⟨o, ho, _⟩ := R.obj
  exact ⟨⟨h, es, ep, t, R, fun _ z => z⟩, ⟨_, ho⟩, fun h1 h2 ⟨h0, es, ep, t, p, k⟩ k2 => ⟨h0, es, ep, t, p, fun o z => k2 o (k o z)⟩⟩
theorem keys_of (I : Inv X pins σ H s) : ∀ {xs : List V} {us : List Value} {ds : List PyData}, DpAll X.K H xs ds → Vals xs us → (∀ d ∈ ds, K8 d) →
    ∃ ks : List (Addr × NK), us = ks.map (fun p => Value.ref p.1) ∧ ks.map (·.2) = ds.map nk ∧ (∀ p ∈ ks, Is8 s.heap p.2 p.1) ∧ ∀ p ∈ ks, ∃ d ∈ ds, p.2 = nk d ∧ Dp X.K H (V.ref p.1) d
  | [], [], [], _, _, _ => ⟨[], rfl, rfl, fun p hp => (by cases hp), fun p hp => (by cases hp)⟩
  | x :: xs, u :: us, d :: ds, h, r, hk => by
    cases h with
    | cons h1 h2 =>
      cases r with
      | cons r1 r2 =>
        obtain ⟨ks, q1, q2, q3, q4⟩ := keys_of I h2 r2 fun d hd => hk d (List.mem_cons_of_mem _ hd)
        obtain ⟨⟨ys, rfl⟩, k1, k2, k3⟩ := hk d (List.mem_cons_self ..)
        obtain ⟨as, rd⟩ := Dp.reads I _ _ _ h1 r1
        obtain ⟨b, zs, rfl, _⟩ := dp_tup h1
        have eu : u = Value.ref b := by
          cases r1
          rfl
        subst eu
        refine ⟨(b, nk (.tuple ys)) :: ks, by rw [q1]; rfl, by rw [List.map_cons, List.map_cons, q2], fun p hp => ?_, fun p hp => ?_⟩
        · rcases List.mem_cons.mp hp with z | z
          · rw [z]
            exact ⟨(is_nk _ _ _ k1 rd).1, k2⟩
          · exact q3 p z
        · rcases List.mem_cons.mp hp with z | z
          · rw [z]
            exact ⟨_, List.mem_cons_self .., rfl, h1⟩
          · obtain ⟨e, e1, e2⟩ := q4 p z
            exact ⟨e, List.mem_cons_of_mem _ e1, e2⟩
  | [], _ :: _, _, _, r, _ => by cases r
  | _ :: _, [], _, _, r, _ => by cases r
  | [], [], _ :: _, h, _, _ => by cases h
  | _ :: _, _ :: _, [], h, _, _ => by cases h
theorem nodup_of {α β : Type} (f : α → β) : ∀ {l : List α}, (l.map f).Nodup → l.Nodup
  | [], _ => List.nodup_nil
  | x :: l, h => by
    rw [List.map_cons, List.nodup_cons] at h
    exact List.nodup_cons.mpr ⟨fun z => h.1 (List.mem_map.mpr ⟨x, z, rfl⟩), nodup_of f h.2⟩
theorem pairs_same {α β : Type} : ∀ {l m : List (α × β)}, l.map (·.1) = m.map (·.1) → l.map (·.2) = m.map (·.2) → l = m
  | [], [], _, _ => rfl
  | [], _ :: _, h, _ => by simp at h
  | _ :: _, [], h, _ => by simp at h
  | (a, b) :: l, (c, d) :: m, h, g => by
    simp only [List.map_cons, List.cons.injEq] at h g
    rw [h.1, g.1, pairs_same h.2 g.2]
theorem pick {K : PySem.W.Frag} {ds : List PyData} : ∀ (L : List (Addr × NK)), (∀ p ∈ L, ∃ d ∈ ds, p.2 = nk d ∧ Dp K H (V.ref p.1) d) → ∃ es : List PyData, DpAll K H (L.map fun p => V.ref p.1) es ∧ L.map (·.2) = es.map nk ∧ ∀ d ∈ es, d ∈ ds
  | [], _ => ⟨[], .nil, rfl, fun d hd => (by cases hd)⟩
  | p :: L, h => by
    obtain ⟨es, q1, q2, q3⟩ := pick L fun p hp => h p (List.mem_cons_of_mem _ hp)
    obtain ⟨d, d1, d2, d3⟩ := h p (List.mem_cons_self ..)
    refine ⟨d :: es, .cons d3 q1, by rw [List.map_cons, List.map_cons, q2, d2], fun e he => ?_⟩
    rcases List.mem_cons.mp he with z | z
    · rw [z]
      exact d1
    · exact q3 e z
/-- set(xs), xs a list or a tuple of such tuples -/
def rSetN (K : PySem.W.Frag) (w : World) : List V → Hp → VK → Prop := fun vs H Q => ∃ (a : Addr) (xs : List V) (ds : List PyData), vs = [V.ref a] ∧ (SqL K H a xs ∨ SqT K H a xs) ∧ DpAll K H xs ds ∧ (∀ d ∈ ds, K8 d) ∧ ds.length < 64 ∧
  ∀ p L es, H p = none → DpAll K H (L.map fun q => V.ref q.1) es → L.map (·.2) = es.map nk → es.Nodup → (∀ d, d ∈ es ↔ d ∈ ds) → es.length ≤ ds.length → Q (.ref p) (upd H p (SetN w p L))
theorem cr_setN {w : World} (hc : X.calm = true) (hw : X.w = w) (hu : X.A.units + 65 < cLine) : CallR X (.type "set") (rSetN X.K w) := by
  subst hw
  intro pins s σ H vs us Q I r h
  obtain ⟨a, xs, ds, rfl, hs, hd, hk, hlen, q⟩ := h
  rw [Vals.ref1 r]
  have hn : H s.heap.objs.size = none := I.hok.fresh (Nat.le_refl _)
  obtain ⟨its, rv, pl⟩ : ∃ its : List Value, Vals xs its ∧ (s.heap.IsList a its.toArray ∨ s.heap.IsTuple a its.toArray) := by
    rcases hs with hs | hs
    · obtain ⟨its, rv, pl, _⟩ := I.list hs
      exact ⟨its, rv, .inl pl.isList⟩
    · obtain ⟨its, rv, pl, _⟩ := I.tuple hs
      exact ⟨its, rv, .inr pl⟩
  obtain ⟨ks, e1, e2, e3, e4⟩ := keys_of I hd rv hk
  have hkl : ks.length = ds.length := by
    have z := congrArg List.length e2
    rwa [List.length_map, List.length_map] at z
  refine call_setN (P := X.prog) (w := X.w) ks (I.ok.hd hc) pl (by simpa using e1) e3 (by omega) (by omega) fun h' tk L es ep t T sm k => ?_
  obtain ⟨fs, f1, f2, f3⟩ := pick L fun p hp => e4 p (List.mem_of_mem_take (sm.sub p hp))
  have inj : ∀ d ∈ ds, ∀ d' ∈ ds, nk d = nk d' → d = d' := fun d hd d' hd' e => nk_inj d d' (hk d hd).2.1 (hk d' hd').2.1 e
  refine ⟨.ref s.heap.objs.size, upd H s.heap.objs.size (SetN X.w s.heap.objs.size L), I.laid (t' := tk) k (Nat.le_refl _) (setN_ok T), rfl, q _ L fs hn f1 f2 ?_ (fun d => ⟨f3 d, fun hd => ?_⟩) ?_⟩
  · have z := T.one
    rw [f2] at z
    exact nodup_of nk z
  · have z : nk d ∈ ks.map (·.2) := by
      rw [e2]
      exact List.mem_map.mpr ⟨d, hd, rfl⟩
    obtain ⟨p, hp, ep⟩ := List.mem_map.mp z
    have z2 := sm.all p (by rw [List.take_length]; exact hp)
    rw [f2, ep] at z2
    obtain ⟨d', hd', e'⟩ := List.mem_map.mp z2
    rw [← inj d' (f3 d' hd') d hd e']
    exact hd'
  · have z := sm.len
    have z2 := congrArg List.length f2
    rw [List.length_map, List.length_map] at z2
    omega
theorem refs_vals : ∀ (L : List (Addr × NK)), Vals (L.map fun q => V.ref q.1) (L.map fun q => Value.ref q.1)
  | [] => .nil
  | _ :: L => .cons rfl (refs_vals L)
/-- sorted(a set of such tuples) -/
def rSortN (K : PySem.W.Frag) (w : World) : List V → Hp → VK → Prop := fun vs H Q => ∃ (a : Addr) (L : List (Addr × NK)) (ds : List PyData), vs = [V.ref a] ∧ H a = some (SetN w a L) ∧ DpAll K H (L.map fun q => V.ref q.1) ds ∧ L.map (·.2) = ds.map nk ∧ AllAlike ds ∧ (∀ d ∈ ds, K8 d) ∧ ds.length < 64 ∧
  ∀ (ys : List V) (fs : List PyData) (p : Addr), H p = none → fs.Perm ds → DpAll K H ys (fs.mergeSort So.dle) → Q (.ref p) (upd H p (.lst ys))
theorem cr_sortN {w : World} (hc : X.calm = true) (hw : X.w = w) (hu : X.A.units + 65 < cLine) : CallR X (.builtin "sorted") (rSortN X.K w) := by
  subst hw
  intro pins s σ H vs us Q I r h
  obtain ⟨a, L, ds, rfl, ha, hd, hn2, hal, hk, hlen, q⟩ := h
  obtain ⟨h0, es, ep, t, T0, k0⟩ := (I.hok a _ ha).1
  rw [Vals.ref1 r]
  have rl := refs_vals L
  have ea := So.each_of I hd rl
  have T : Ts X.w s.heap a L es ep t := T0.keep k0 fun p hp => by
    obtain ⟨ks, e1, e2, e3, e4⟩ := keys_of I hd rl hk
    have es1 : ks.map (·.1) = L.map (·.1) := by
      have z := congrArg (List.map fun v => match v with | Value.ref b => b | _ => 0) e1
      rw [List.map_map, List.map_map] at z
      exact z.symm
    have el : ks = L := pairs_same es1 (by rw [e2, hn2])
    rw [← el] at hp
    exact e3 p hp
  refine sorted_setN (P := X.prog) T (I.ok.hd hc) hu (ea.mono fun _ _ z => z.1) (ea.mono fun _ _ z => z.2) hal hk fun s' p out c fs k g o hp hg pf eo => ?_
  obtain ⟨ys, ry, dy⟩ := So.each_back eo
  have hl2 : ys.length ≤ sizeLine := by
    have z := eo.length
    rw [List.length_mergeSort, pf.length_eq] at z
    rw [ry.length, z, sizeLine_eq]
    omega
  have hn : H p = none := I.hok.fresh hp
  have J : Inv X pins σ (upd H p (.lst ys)) { s with heap := s'.heap, gens := s'.gens, drawn := s'.drawn, toks := s'.toks } :=
    I.call (ch := []) (Un.laid k hp hn) (I.hok.laid k hp ⟨hl2, out, c, ry, hg⟩) (by rw [g]; exact I.bare) (fun _ z => nomatch z)
  have e : s' = { s with heap := s'.heap, gens := s'.gens, drawn := s'.drawn, toks := s'.toks } := by
    cases s'
    cases s
    cases o
    rfl
  rw [e]
  exact ⟨.ref p, _, J, rfl, q ys fs p hn pf dy⟩
end
end Sd
/-! len(set of texts); data in a tuple of data; == and != of data within a block. -/
namespace Sl
open PySem PySem.Spec PyProof.Rows L2 Bx TL Dx
section
variable {X : Cx}
def rLenX (P : Program) (w : World) : List V → Hp → VK → Prop := fun vs H Q => ∃ (a : Addr) (l : List Str), vs = [V.ref a] ∧ H a = some (Sx.SetV P w a l) ∧ l.length < 4000 ∧ Q (.int l.length) H
theorem call_lenX : CallR X (.builtin "len") (rLenX X.prog X.w) := by
  intro pins s σ H vs us Q I r h
  obtain ⟨a, l, rfl, ha, hlen, q⟩ := h
  have R : Sx.SetX X.prog X.w s.heap a l := (I.hok a _ ha).1
  obtain ⟨⟨es, ep, t⟩, ho, F, nd, ri, hl⟩ := R
  rw [Vals.ref1 r]
  have hsz : es.size = l.length := F.sz
  exact call_len_set ho ⟨rfl, rfl, rfl⟩ rfl F.fit (by rw [hsz]; omega) ⟨.int l.length, H, I.tok _, ⟨s.toks + 1, by rw [hsz]⟩, q⟩
def rInT (K : PySem.W.Frag) : R2 := fun x y H Q => ∃ d ds, Dp K H x d ∧ Dp K H y (.tuple ds) ∧ SeqAt.shaped d = true ∧ SeqAt.shaped (.tuple ds) = true ∧ Q (.bl (ds.any fun z => PyData.eqv z d)) H
theorem op_inT {K : PySem.W.Frag} (hK : X.K = K) (hu : X.A.units + 65 < cLine) : OpR X (compareOp .In) (rInT K) := by
  subst hK
  intro pins s σ H x y v u Q I rx ry h
  obtain ⟨d, ds, hd, he, sd, se, q⟩ := h
  obtain ⟨as, r1⟩ := Dp.reads I d x v hd rx
  obtain ⟨bs, r2⟩ := Dp.reads I (.tuple ds) y u he ry
  exact SeqAt.in_tuple_reads r2 r1 (SeqAt.canLay_of_shaped se) (SeqAt.canLay_of_shaped sd) (room_in_shaped sd hu) ⟨.bl _, H, I, rfl, q⟩
theorem op_eqDK {K : PySem.W.Frag} (hK : X.K = K) (hu : X.A.units + 64 < cLine) : OpR X (compareOp .Eq) (rEqD K) := by
  subst hK
  exact op_eqD hu
theorem op_neDK {K : PySem.W.Frag} (hK : X.K = K) (hu : X.A.units + 64 < cLine) : OpR X (compareOp .NotEq) (rNeD K) := by
  subst hK
  exact op_neD hu
end
end Sl
/-! data not in a tuple of data. -/
namespace Sl
open PySem PySem.Spec PyProof.Rows L2 Bx TL Dx
section
variable {X : Cx}
def rNotInT (K : PySem.W.Frag) : R2 := fun x y H Q => ∃ d ds, Dp K H x d ∧ Dp K H y (.tuple ds) ∧ SeqAt.shaped d = true ∧ SeqAt.shaped (.tuple ds) = true ∧ Q (.bl (!ds.any fun z => PyData.eqv z d)) H
theorem op_notInT {K : PySem.W.Frag} (hK : X.K = K) (hu : X.A.units + 65 < cLine) : OpR X (compareOp .NotIn) (rNotInT K) := by
  subst hK
  intro pins s σ H x y v u Q I rx ry h
  obtain ⟨d, ds, hd, he, sd, se, q⟩ := h
  obtain ⟨as, one⟩ := Dp.reads I d x v hd rx
  obtain ⟨bs, two⟩ := Dp.reads I (.tuple ds) y u he ry
  exact SeqAt.notIn_tuple_reads two one (SeqAt.canLay_of_shaped se) (SeqAt.canLay_of_shaped sd) (room_in_shaped sd hu) ⟨.bl _, H, I, rfl, q⟩
end
end Sl
/-! sorted(a list of tuples of alike data), the empty tuple among them. -/
namespace Sd
open PySem PySem.Spec PyProof.Rows L2 Bx TL Dx PySem.W PySem.Calls
section
variable {P : Program} {w : World} {A : Around} {E : Value → Shared → Prop} {s : Shared} {vs : List Value} {bs : List PyData} {R : Value → PyData → Prop}
theorem sorted_tups {l : Addr} {Q : Value → Shared → Prop} (hl : s.heap.IsList l vs.toArray) (e : EachIs R vs bs) (er : EachIs (fun v b => ∃ as, PySem.Reads s.heap v b as) vs bs) (hal : AllAlike bs) (ht : ∀ b ∈ bs, ∃ xs, b = .tuple xs) (hL : bs.length ≤ sizeLine)
    (hu : ∀ b, b ∈ bs → A.units + 2 + b.depth < cLine) (h : ∀ out, out.length = bs.length → EachIs R out (bs.mergeSort (dataLe false id)) → Q (.ref (s.heap.objs.size + 1)) { s with heap := sortedAll s.heap vs (List.toArray out) }) :
    wpAny (model P w) A (call (.builtin "sorted") [.ref l]) Q E s := by
  have em : bs.map id = bs := List.map_id bs
  have kept : EachIs (fun v b => ∃ as, PySem.Reads (sortingHeap (copyHeap s.heap vs) (s.heap.objs.size + 1) vs) v (id b) as) vs bs := er.mono fun _ _ ⟨as, r⟩ => ⟨as, PyProof.Rows.Reads.keeps (fun _ _ => sorting_copy_old) r⟩
  have here : SortsAt P w A.in1.in1 { s with heap := sortingHeap (copyHeap s.heap vs) (s.heap.objs.size + 1) vs } (dataKind (sortingHeap (copyHeap s.heap vs) (s.heap.objs.size + 1) vs) (bs.map id)) vs := by
    rw [em]
    exact sorts_tups (s := { s with heap := sortingHeap (copyHeap s.heap vs) (s.heap.objs.size + 1) vs }) kept hal ht fun d hd => hu d hd
  exact sorted_vals hl here (by rw [e.length]; exact hL) (h _ (by rw [sortVals_length false rfl]; exact e.length) (sortVals_data (enc := id) false e kept (by rw [em]; exact hal)))
end
section
variable {X : Cx}
def rSortT (K : PySem.W.Frag) : List V → Hp → VK → Prop := fun xs H Q => ∃ (a : Addr) (vs : List V) (ds : List PyData), xs = [V.ref a] ∧ SqL K H a vs ∧ DpAll K H vs ds ∧ AllAlike ds ∧ (∀ d ∈ ds, ∃ xs, d = .tuple xs) ∧ ds.length ≤ sizeLine ∧ (∀ d ∈ ds, d.depth ≤ 60) ∧
  ∀ (ys : List V) (p : Addr), H p = none → DpAll K H ys (ds.mergeSort So.dle) → Q (.ref p) (upd H p (.lst ys))
theorem cr_sortT (hu : X.A.units + 65 < cLine) : CallR X (.builtin "sorted") (rSortT X.K) := by
  intro pins s σ H xs us Q I r h
  obtain ⟨a, vs, ds, rfl, hs, hd, hal, hso, hz, hdp, q⟩ := h
  cases r with
  | cons ra rb =>
    cases rb
    cases ra
    obtain ⟨its, rv, hl, _⟩ := I.list hs
    have ea := So.each_of I hd rv
    refine sorted_tups (bs := ds) (R := fun u d => ∃ v, Dp X.K H v d ∧ L2.RelV v u) hl.isList (ea.mono fun _ _ z => z.1) (ea.mono fun _ _ z => z.2) hal hso hz (fun d hd => ?_) fun out hlen eo => ?_
    · have := hdp d hd
      omega
    · obtain ⟨ys, ry, dy⟩ := So.each_back eo
      obtain ⟨ep, he'⟩ := PyProof.Rows.sortedAll_at s.heap its out.toArray
      have hyl : ys.length = ds.length := by rw [ry.length, hlen]
      exact ⟨.ref _, upd H (s.heap.objs.size + 1) (.lst ys), I.laid (t' := s.toks) (fun _ _ => PyProof.Rows.sortedAll_old) (Nat.le_succ _) ⟨by rw [hyl]; exact hz, out, ep, ry, by simpa using he'⟩, rfl, q ys _ (I.hok.fresh (Nat.le_succ _)) dy⟩
end
end Sd
namespace K12
local macro_rules | `(tactic| walk_at "rd") => `(tactic| repeat (first | refine ⟨rfl, ?_⟩ | refine ⟨_, rfl, ?_⟩ | refine ⟨_, _, rfl, rfl, ?_⟩ | refine ⟨⟨_, rfl⟩, ?_⟩))
open PySem PySem.Spec PyProof.Rows L2 Bx TL Dx Zx Ow Sup NdefX Px
def topS (i : Nat) : Stmt := PySem.Challenge.pw_shadowlinks_k12_cuts_judged.main.body.getD i (.Pass ⟨0, 0, 0, 0⟩)
abbrev s_contains : Stmt := topS 2
abbrev n_contains : List Str := ["first", "second", "literal"]
theorem sc_contains : FnScope n_contains ["first", "second"] (defScope s_contains) := ⟨rfl, rfl, rfl, by decide +kernel, rfl, by decide +kernel, by decide +kernel⟩
abbrev s_resolvent : Stmt := topS 3
abbrev n_resolvent : List Str := ["first", "second", "name", "kept", "other", "literals", "literal", "own", "_"]
theorem sc_resolvent : FnScope n_resolvent ["first", "second", "name"] (defScope s_resolvent) := ⟨rfl, rfl, rfl, by decide +kernel, rfl, by decide +kernel, by decide +kernel⟩
abbrev s_derive_lines : Stmt := topS 5
abbrev n_derive_lines : List Str := ["clauses", "certificate", "derived", "line", "clause"]
theorem sc_derive_lines : FnScope n_derive_lines ["clauses", "certificate"] (defScope s_derive_lines) := ⟨rfl, rfl, rfl, by decide +kernel, rfl, by decide +kernel, by decide +kernel⟩
abbrev s__derived : Stmt := topS 6
abbrev n__derived : List Str := ["clauses", "before", "line", "first", "second", "_", "i", "j", "name"]
theorem sc__derived : FnScope n__derived ["clauses", "before", "line"] (defScope s__derived) := ⟨rfl, rfl, rfl, by decide +kernel, rfl, by decide +kernel, by decide +kernel⟩
abbrev s__clause_at : Stmt := topS 7
abbrev n__clause_at : List Str := ["clauses", "index"]
theorem sc__clause_at : FnScope n__clause_at ["clauses", "index"] (defScope s__clause_at) := ⟨rfl, rfl, rfl, by decide +kernel, rfl, by decide +kernel, by decide +kernel⟩
abbrev s__undecided : Stmt := topS 12
abbrev n__undecided : List Str := ["theory", "constraint", "decided", "name", "_"]
theorem sc__undecided : FnScope n__undecided ["theory", "constraint"] (defScope s__undecided) := ⟨rfl, rfl, rfl, by decide +kernel, rfl, by decide +kernel, by decide +kernel⟩
abbrev s__fails : Stmt := topS 13
abbrev n__fails : List Str := ["clause", "decided", "name", "sign"]
theorem sc__fails : FnScope n__fails ["clause", "decided"] (defScope s__fails) := ⟨rfl, rfl, rfl, by decide +kernel, rfl, by decide +kernel, by decide +kernel⟩
abbrev s__solution : Stmt := topS 14
abbrev n__solution : List Str := ["names", "clauses", "decided", "value", "found", "clause"]
theorem sc__solution : FnScope n__solution ["names", "clauses", "decided"] (defScope s__solution) := ⟨rfl, rfl, rfl, by decide +kernel, rfl, by decide +kernel, by decide +kernel⟩
abbrev s__refute : Stmt := topS 15
abbrev n__refute : List Str := ["names", "clauses", "decided", "lines", "name", "index", "clause", "low", "first", "high", "second"]
theorem sc__refute : FnScope n__refute ["names", "clauses", "decided", "lines"] (defScope s__refute) := ⟨rfl, rfl, rfl, by decide +kernel, rfl, by decide +kernel, by decide +kernel⟩
abbrev s_Bits_certificate : Stmt := inClass (topS 11) 10
abbrev n_Bits_certificate : List Str := ["self", "theory", "constraint", "lines", "decided", "number", "_", "name", "sign"]
theorem sc_Bits_certificate : FnScope n_Bits_certificate ["self", "theory", "constraint"] (defScope s_Bits_certificate) := ⟨rfl, rfl, rfl, by decide +kernel, rfl, by decide +kernel, by decide +kernel⟩
abbrev s_Bits_accepts : Stmt := inClass (topS 11) 11
abbrev n_Bits_accepts : List Str := ["self", "theory", "constraint", "certificate", "derived"]
theorem sc_Bits_accepts : FnScope n_Bits_accepts ["self", "theory", "constraint", "certificate"] (defScope s_Bits_accepts) := ⟨rfl, rfl, rfl, by decide +kernel, rfl, by decide +kernel, by decide +kernel⟩
abbrev s_Bits_counterexample : Stmt := inClass (topS 11) 12
abbrev n_Bits_counterexample : List Str := ["self", "theory", "constraint", "decided", "name", "sign"]
theorem sc_Bits_counterexample : FnScope n_Bits_counterexample ["self", "theory", "constraint"] (defScope s_Bits_counterexample) := ⟨rfl, rfl, rfl, by decide +kernel, rfl, by decide +kernel, by decide +kernel⟩
abbrev s__law_source : Stmt := topS 17
abbrev n__law_source : List Str := ["_law_script", "_law_k", "_law_number"]
theorem sc__law_source : FnScope n__law_source ["_law_script", "_law_k"] (defScope s__law_source) := ⟨rfl, rfl, rfl, by decide +kernel, rfl, by decide +kernel, by decide +kernel⟩
abbrev s__law_draw : Stmt := topS 18
abbrev n__law_draw : List Str := ["_law_source_here", "_law_limit", "_law_number", "_law_mixed"]
theorem sc__law_draw : FnScope n__law_draw ["_law_source_here", "_law_limit"] (defScope s__law_draw) := ⟨rfl, rfl, rfl, by decide +kernel, rfl, by decide +kernel, by decide +kernel⟩
abbrev s__law_some : Stmt := topS 19
abbrev n__law_some : List Str := ["_law_source_here", "_law_names", "_law_most", "_law_found", "_law_name"]
theorem sc__law_some : FnScope n__law_some ["_law_source_here", "_law_names", "_law_most"] (defScope s__law_some) := ⟨rfl, rfl, rfl, by decide +kernel, rfl, by decide +kernel, by decide +kernel⟩
abbrev s__law_is_int : Stmt := topS 20
abbrev n__law_is_int : List Str := ["_law_value"]
theorem sc__law_is_int : FnScope n__law_is_int ["_law_value"] (defScope s__law_is_int) := ⟨rfl, rfl, rfl, by decide +kernel, rfl, by decide +kernel, by decide +kernel⟩
abbrev s__law_cut : Stmt := topS 21
abbrev n__law_cut : List Str := ["_law_first", "_law_second", "_law_name", "_law_found", "_law_literal"]
theorem sc__law_cut : FnScope n__law_cut ["_law_first", "_law_second", "_law_name"] (defScope s__law_cut) := ⟨rfl, rfl, rfl, by decide +kernel, rfl, by decide +kernel, by decide +kernel⟩
abbrev s__law_bits_show : Stmt := topS 22
abbrev n__law_bits_show : List Str := ["_law_theory_here", "_law_constraint", "_law_certificate", "_law_clauses", "_law_entry_here", "_law_clause_here", "_law_literal"]
theorem sc__law_bits_show : FnScope n__law_bits_show ["_law_theory_here", "_law_constraint", "_law_certificate"] (defScope s__law_bits_show) := ⟨rfl, rfl, rfl, by decide +kernel, rfl, by decide +kernel, by decide +kernel⟩
abbrev s__law_clause : Stmt := topS 23
abbrev n__law_clause : List Str := ["_law_source_here", "_law_names", "_law_clause_here", "_law_sparse", "_law_name", "_law_choice"]
theorem sc__law_clause : FnScope n__law_clause ["_law_source_here", "_law_names"] (defScope s__law_clause) := ⟨rfl, rfl, rfl, by decide +kernel, rfl, by decide +kernel, by decide +kernel⟩
abbrev s__law_theory : Stmt := topS 24
abbrev n__law_theory : List Str := ["_law_source_here", "_law_names", "_law_k"]
theorem sc__law_theory : FnScope n__law_theory ["_law_source_here"] (defScope s__law_theory) := ⟨rfl, rfl, rfl, by decide +kernel, rfl, by decide +kernel, by decide +kernel⟩
abbrev s__law_derived : Stmt := topS 25
abbrev n__law_derived : List Str := ["_law_source_here", "_law_theory_here", "_law_lines", "_law_clauses", "_law_k", "_law_name", "_law_firsts", "_law_seconds", "_law_first", "_law_second", "_law_clause_here", "_law_at"]
theorem sc__law_derived : FnScope n__law_derived ["_law_source_here", "_law_theory_here"] (defScope s__law_derived) := ⟨rfl, rfl, rfl, by decide +kernel, rfl, by decide +kernel, by decide +kernel⟩
abbrev s__law_widened : Stmt := topS 26
abbrev n__law_widened : List Str := ["_law_source_here", "_law_names", "_law_clause_here", "_law_found", "_law_used", "_law_name", "_law_literal"]
theorem sc__law_widened : FnScope n__law_widened ["_law_source_here", "_law_names", "_law_clause_here"] (defScope s__law_widened) := ⟨rfl, rfl, rfl, by decide +kernel, rfl, by decide +kernel, by decide +kernel⟩
abbrev s__law_narrowed : Stmt := topS 27
abbrev n__law_narrowed : List Str := ["_law_source_here", "_law_clause_here", "_law_at", "_law_kept"]
theorem sc__law_narrowed : FnScope n__law_narrowed ["_law_source_here", "_law_clause_here"] (defScope s__law_narrowed) := ⟨rfl, rfl, rfl, by decide +kernel, rfl, by decide +kernel, by decide +kernel⟩
abbrev s__law_is_entry : Stmt := topS 28
abbrev n__law_is_entry : List Str := ["_law_entry_here"]
theorem sc__law_is_entry : FnScope n__law_is_entry ["_law_entry_here"] (defScope s__law_is_entry) := ⟨rfl, rfl, rfl, by decide +kernel, rfl, by decide +kernel, by decide +kernel⟩
abbrev s__law_is_certificate : Stmt := topS 29
abbrev n__law_is_certificate : List Str := ["_law_certificate", "_law_entry_here"]
theorem sc__law_is_certificate : FnScope n__law_is_certificate ["_law_certificate"] (defScope s__law_is_certificate) := ⟨rfl, rfl, rfl, by decide +kernel, rfl, by decide +kernel, by decide +kernel⟩
abbrev s__law_index : Stmt := topS 30
abbrev n__law_index : List Str := ["_law_source_here", "_law_index_here", "_law_count"]
theorem sc__law_index : FnScope n__law_index ["_law_source_here", "_law_index_here", "_law_count"] (defScope s__law_index) := ⟨rfl, rfl, rfl, by decide +kernel, rfl, by decide +kernel, by decide +kernel⟩
abbrev s__law_entry : Stmt := topS 31
abbrev n__law_entry : List Str := ["_law_source_here", "_law_names", "_law_entry_here", "_law_at", "_law_count", "_law_other", "_law_way"]
theorem sc__law_entry : FnScope n__law_entry ["_law_source_here", "_law_names", "_law_entry_here", "_law_at", "_law_count"] (defScope s__law_entry) := ⟨rfl, rfl, rfl, by decide +kernel, rfl, by decide +kernel, by decide +kernel⟩
abbrev s__law_changed : Stmt := topS 32
abbrev n__law_changed : List Str := ["_law_source_here", "_law_names", "_law_certificate", "_law_entries", "_law_at", "_law_other", "_law_way"]
theorem sc__law_changed : FnScope n__law_changed ["_law_source_here", "_law_names", "_law_certificate"] (defScope s__law_changed) := ⟨rfl, rfl, rfl, by decide +kernel, rfl, by decide +kernel, by decide +kernel⟩
abbrev s__law_wild : Stmt := topS 33
abbrev n__law_wild : List Str := ["_law_source_here", "_law_names", "_law_marks", "_law_entries", "_law_k", "_law_name"]
theorem sc__law_wild : FnScope n__law_wild ["_law_source_here", "_law_names"] (defScope s__law_wild) := ⟨rfl, rfl, rfl, by decide +kernel, rfl, by decide +kernel, by decide +kernel⟩
abbrev s__law_judged : Stmt := topS 34
abbrev n__law_judged : List Str := ["_law_kind", "_law_theory_here", "_law_question", "_law_certificate", "_law_answer"]
theorem sc__law_judged : FnScope n__law_judged ["_law_kind", "_law_theory_here", "_law_question", "_law_certificate"] (defScope s__law_judged) := ⟨rfl, rfl, rfl, by decide +kernel, rfl, by decide +kernel, by decide +kernel⟩
abbrev s_law : Stmt := topS 35
abbrev n_law : List Str := ["_law_script", "_law_kind", "_law_theory_here", "_law_names", "_law_source_here", "_law_derived_here", "_law_question", "_law_certificates", "_law_questions", "_law_k", "_law_returned", "_law_asked"]
theorem sc_law : FnScope n_law ["_law_script"] (defScope s_law) := ⟨rfl, rfl, rfl, by decide +kernel, rfl, by decide +kernel, by decide +kernel⟩
/-! ### literals, clauses as data -/
abbrev Lit := Str × Int
abbrev Cl := List Lit
def litD (l : Lit) : PyData := .tuple [.str l.1, .int l.2]
def clD (c : Cl) : PyData := .tuple (c.map litD)
def OkC (c : Cl) : Prop := ∀ l ∈ c, PyData.strOk l.1 = true
theorem eqv_lit (x y : Lit) : PyData.eqv (litD x) (litD y) = decide (x = y) := by
  obtain ⟨a, i⟩ := x
  obtain ⟨b, j⟩ := y
  show ((a == b) && ((i == j) && true)) = _
  rw [Bool.and_true, Bool.eq_iff_iff, Bool.and_eq_true, beq_iff_eq, beq_iff_eq, decide_eq_true_iff]
  exact ⟨fun h => by rw [h.1, h.2], fun h => by cases h; exact ⟨rfl, rfl⟩⟩
theorem eqv_lits : ∀ c d : Cl, PyData.eqvAll (c.map litD) (d.map litD) = decide (c = d)
  | [], [] => rfl
  | [], _ :: _ => rfl
  | _ :: _, [] => rfl
  | x :: c, y :: d => by
    show (PyData.eqv (litD x) (litD y) && PyData.eqvAll (c.map litD) (d.map litD)) = _
    rw [eqv_lit, eqv_lits c d, Bool.eq_iff_iff, Bool.and_eq_true, decide_eq_true_iff, decide_eq_true_iff, decide_eq_true_iff]
    exact ⟨fun h => by rw [h.1, h.2], fun h => by cases h; exact ⟨rfl, rfl⟩⟩
theorem eqv_cl (c d : Cl) : PyData.eqv (clD c) (clD d) = decide (c = d) := eqv_lits c d
theorem any_lit (c : Cl) (l : Lit) : ((c.map litD).any fun z => PyData.eqv z (litD l)) = decide (l ∈ c) := by
  rw [List.any_map, Bool.eq_iff_iff, List.any_eq_true, decide_eq_true_iff]
  refine ⟨fun ⟨x, h1, h2⟩ => ?_, fun h => ⟨l, h, ?_⟩⟩
  · have z : PyData.eqv (litD x) (litD l) = true := h2
    rw [eqv_lit, decide_eq_true_iff] at z
    rw [← z]
    exact h1
  · show PyData.eqv (litD l) (litD l) = true
    rw [eqv_lit, decide_eq_true_iff]
theorem lay_lit {l : Lit} (h : PyData.strOk l.1 = true) : PyData.canLay0 (litD l) = true := by
  show (PyData.strOk l.1 && (true && true)) = true
  rw [h]
  rfl
theorem lay_lits : ∀ {c : Cl}, OkC c → PyData.canLayAll0 (c.map litD) = true
  | [], _ => rfl
  | l :: c, h => by
    show (PyData.canLay0 (litD l) && PyData.canLayAll0 (c.map litD)) = true
    rw [lay_lit (h l (List.mem_cons_self ..)), lay_lits fun x hx => h x (List.mem_cons_of_mem _ hx)]
    rfl
theorem dep_lit (l : Lit) : (litD l).depth = 1 := rfl
theorem dep_lits : ∀ c : Cl, PyData.depthAll (c.map litD) ≤ 1
  | [] => Nat.zero_le _
  | l :: c => by
    have ih := dep_lits c
    show max (litD l).depth (PyData.depthAll (c.map litD)) ≤ 1
    rw [dep_lit]
    omega
theorem dep_cl (c : Cl) : (clD c).depth ≤ 2 := by
  have z := dep_lits c
  show PyData.depthAll (c.map litD) + 1 ≤ 2
  omega
theorem sh_lit {l : Lit} (h : PyData.strOk l.1 = true) : SeqAt.shaped (litD l) = true := by
  unfold SeqAt.shaped
  rw [lay_lit h, Bool.true_and, decide_eq_true_iff, dep_lit]
  decide
theorem sh_cl {c : Cl} (h : OkC c) : SeqAt.shaped (clD c) = true := by
  unfold SeqAt.shaped
  have z := dep_cl c
  have e : PyData.canLay0 (clD c) = true := lay_lits h
  rw [e, Bool.true_and, decide_eq_true_iff]
  omega
theorem lit_dp {K : PySem.W.Frag} {H : Hp} {v : V} {l : Lit} (h : Dp K H v (litD l)) : ∃ p, v = .ref p ∧ SqT K H p [.str l.1, .int l.2] := by
  obtain ⟨p, xs, rfl, hs, ha⟩ := dp_tup h
  cases ha with
  | cons h1 ha =>
    cases ha with
    | cons h2 ha =>
      cases ha
      cases h1
      cases h2
      exact ⟨p, rfl, hs⟩
theorem dp_lit {K : PySem.W.Frag} {H : Hp} {p : Addr} {l : Lit} (h : SqT K H p [.str l.1, .int l.2]) : Dp K H (.ref p) (litD l) := .tup h (.cons (.str _) (da_one (.int _)))
theorem da_atM {K : PySem.W.Frag} {H : Hp} {α : Type} {f : α → PyData} : ∀ {xs : List V} {cs : List α}, DpAll K H xs (cs.map f) → ∀ {i : Nat} {v : V}, xs[i]? = some v → ∃ c, cs[i]? = some c ∧ Dp K H v (f c)
  | _, [], h, i, v, e => by
    cases h
    cases e
  | _, c :: cs, h, i, v, e => by
    cases h with
    | cons h1 h2 =>
      cases i with
      | zero =>
        cases e
        exact ⟨c, rfl, h1⟩
      | succ i => exact da_atM h2 e
mutual
def tupD : PyData → Bool
  | .str _ => true
  | .int _ => true
  | .tuple ds => tupAll ds
  | _ => false
def tupAll : List PyData → Bool
  | [] => true
  | d :: ds => tupD d && tupAll ds
end
def Tk (K : PySem.W.Frag) (H H' : Hp) : Prop := ∀ a xs, SqT K H a xs → SqT K H' a xs
theorem tk_same {K : PySem.W.Frag} {H H' : Hp} (s : Same H H') : Tk K H H' := fun _ _ h => Bx.Same.tup s h
theorem Tk.trans {K : PySem.W.Frag} {H H1 H2 : Hp} (a : Tk K H H1) (b : Tk K H1 H2) : Tk K H H2 := fun _ _ h => b _ _ (a _ _ h)
theorem tk_lst {K : PySem.W.Frag} {H : Hp} {p : Addr} {ys : List V} {o : HO} (hp : H p = some (.lst ys)) : Tk K H (upd H p o) := fun a xs h => by
  rcases h with (h | ⟨u, h⟩) | h
  · exact .inl (.inl (by rw [upd_ne fun z => by rw [z, hp] at h; cases h]; exact h))
  · exact .inl (.inr ⟨u, by rw [upd_ne fun z => by rw [z, hp] at h; cases h]; exact h⟩)
  · exact .inr h
mutual
theorem dp_tk {K : PySem.W.Frag} {H H' : Hp} (tk : Tk K H H') : ∀ (d : PyData) (v : V), tupD d = true → Dp K H v d → Dp K H' v d
  | .str _, _, _, h => by
    cases h
    exact .str _
  | .int _, _, _, h => by
    cases h
    exact .int _
  | .tuple ds, _, e, h => by
    cases h with
    | tup hs ha => exact .tup (tk _ _ hs) (da_tk tk ds _ e ha)
  | .none, _, e, _ => by cases e
  | .bool _, _, e, _ => by cases e
  | .list _, _, e, _ => by cases e
  | .dict _, _, e, _ => by cases e
theorem da_tk {K : PySem.W.Frag} {H H' : Hp} (tk : Tk K H H') : ∀ (ds : List PyData) (vs : List V), tupAll ds = true → DpAll K H vs ds → DpAll K H' vs ds
  | [], _, _, h => by
    cases h
    exact .nil
  | d :: ds, _, e, h => by
    have e2 : (tupD d && tupAll ds) = true := e
    rw [Bool.and_eq_true] at e2
    cases h with
    | cons h1 h2 => exact .cons (dp_tk tk d _ e2.1 h1) (da_tk tk ds _ e2.2 h2)
end
theorem tup_lits : ∀ c : Cl, tupAll (c.map litD) = true
  | [] => rfl
  | l :: c => by
    show (tupD (litD l) && tupAll (c.map litD)) = true
    rw [tup_lits c]
    rfl
theorem tup_cls : ∀ cs : List Cl, tupAll (cs.map clD) = true
  | [] => rfl
  | c :: cs => by
    show (tupAll (c.map litD) && tupAll (cs.map clD)) = true
    rw [tup_cls cs, tup_lits c]
    rfl
section
variable {P : Program} {w : World} {K : PySem.W.Frag} {mg : Str → Option Value} {base : Heap}
/-! ### contains -/
def inC (c d : Cl) : Bool := d.all fun l => decide (l ∈ c)
@[irreducible] def spContains (K : PySem.W.Frag) : Sp := fun vs H Q _ => ∃ (p q : Addr) (c d : Cl), vs = [.ref p, .ref q] ∧ Dp K H (.ref p) (clD c) ∧ Dp K H (.ref q) (clD d) ∧ OkC c ∧ OkC d ∧ d.length ≤ 1000 ∧ ∀ H', Same H H' → Q (.bl (inC c d)) H'
theorem ok_contains {f : Addr} {fd : FuncData} (F : Fun K "contains" "contains" s_contains f fd) (m_all : mg "all" = none) : FnOk P w K mg base CX0 1 f fd ["first", "second"] (spContains K) := by
  refine F.ok sc_contains (fun vs H Q E h => ?_) (fun cdv A outer s H vs Q E hr h => ?_)
  · unfold spContains at h
    obtain ⟨p, q, c, d, rfl, _⟩ := h
    rfl
  · unfold spContains at h
    obtain ⟨p, q, c, d, rfl, hc, hd, oc, od, hdl, qq⟩ := h
    refine ⟨_, (pss_one (ps_ret (pe_callB (id := "all") (cr_all rfl) (by rfl) m_all (by decide +kernel) (pa_cons (pe_lc (own := [("literal", 2)]) (tt := tYes) rfl sc_contains.nd (pi_tup (pv 1)) (blkOk_by (N := n_contains) (sc := defScope s_contains) (by decide +kernel)) (fun _ _ _ _ _ => pg_name (i := 2) sc_contains.nd rfl (Or.inl rfl)) (fun _ _ _ _ _ => pts_nil) (fun _ _ _ _ _ => (pe_cmpR (Sl.op_inT (K := K) rfl (room hr)) (pv 2) (pv 0) (by rfl)))) pa_nil)))), ?_⟩
    walk_at "rd"
    obtain ⟨q', xs, eq, ht, ha⟩ := dp_tup hd
    cases eq
    have xl : xs.length = d.length := by rw [da_len ha, List.length_map]
    refine ⟨⟨_, ht⟩, fun D hD => ?_⟩
    refine lc_it walk_tup (fun i H' => H' = upd H D (.lst ((d.take i).map fun l => V.bl (decide (l ∈ c))))) rfl (fun i H' _ e => e ▸ Bx.Same.tup (same_new hD) ht) ?_ ?_
    · rintro i v H2 H3 hi rfl ⟨rfl, hx⟩
      have sD := same_new hD (o := .lst ((d.take i).map fun l => V.bl (decide (l ∈ c))))
      obtain ⟨l, hl, dl⟩ := da_atM ha hx
      have ol := od l (List.mem_of_getElem? hl)
      refine ⟨rfl, ?_⟩
      walk_at "rd"
      refine ⟨litD l, c.map litD, dp_same sD dl, dp_same sD hc, sh_lit ol, sh_cl oc, ?_⟩
      rw [any_lit]
      refine ⟨_, upd_same, ?_, ?_⟩
      · rw [List.length_map]
        exact szl (Nat.lt_of_le_of_lt (List.length_take_le' i d) (by omega))
      · rw [upd_upd, List.take_add_one, hl, List.map_append]
        rfl
    rintro H2 rfl
    have sM := same_new hD (o := .lst ((d.take xs.length).map fun l => V.bl (decide (l ∈ c))))
    have hM : (upd H D (.lst ((d.take xs.length).map fun l => V.bl (decide (l ∈ c))))) D = some (.lst ((d.map fun l => decide (l ∈ c)).map V.bl)) := by
      rw [upd_same, xl, List.take_length, List.map_map]
      rfl
    generalize upd H D (.lst ((d.take xs.length).map fun l => V.bl (decide (l ∈ c)))) = H2 at sM hM ⊢
    refine ⟨_, d.map (fun l => decide (l ∈ c)), rfl, sq hM, ?_⟩
    have e2 : (d.map fun l => decide (l ∈ c)).all id = inC c d := by
      unfold inC
      rw [List.all_map]
      rfl
    rw [e2]
    exact qq _ sM
end
end K12
namespace K12
local macro_rules | `(tactic| walk_at "rd") => `(tactic| repeat (first | refine ⟨rfl, ?_⟩ | refine ⟨_, rfl, ?_⟩ | refine ⟨_, _, rfl, rfl, ?_⟩ | refine ⟨⟨_, rfl⟩, ?_⟩))
open PySem PySem.Spec PyProof.Rows L2 Bx TL Dx Zx Ow Sup NdefX Px
/-! ### what sorting and sets ask of literals and clauses -/
theorem lit_inj {x y : Lit} (h : litD x = litD y) : x = y := of_decide_eq_true (by rw [← eqv_lit, h, eqv_lit, decide_eq_true_iff])
theorem cl_inj {c d : Cl} (h : clD c = clD d) : c = d := of_decide_eq_true (by rw [← eqv_cl, h, eqv_cl, decide_eq_true_iff])
theorem alike_lit (x y : Lit) : PySem.W.alike (litD x) (litD y) = true := rfl
theorem alike_lits : ∀ c d : Cl, PySem.W.alikeAll (c.map litD) (d.map litD) = true
  | [], _ => by simp [PySem.W.alikeAll]
  | _ :: _, [] => by simp [PySem.W.alikeAll]
  | x :: c, y :: d => by
    show PySem.W.alikeAll (litD x :: c.map litD) (litD y :: d.map litD) = true
    rw [PySem.W.alikeAll, alike_lits c d, alike_lit]
    rfl
theorem alike_cl (c d : Cl) : PySem.W.alike (clD c) (clD d) = true := by
  show PySem.W.alike (.tuple (c.map litD)) (.tuple (d.map litD)) = true
  rw [PySem.W.alike, alike_lits]
theorem all_alike {α : Type} {f : α → PyData} (h : ∀ x y, PySem.W.alike (f x) (f y) = true) (l : List α) : PySem.W.AllAlike (l.map f) := by
  intro d hd d' hd'
  obtain ⟨x, _, rfl⟩ := List.mem_map.mp hd
  obtain ⟨y, _, rfl⟩ := List.mem_map.mp hd'
  exact h x y
theorem k8_lit (l : Lit) : Sd.K8 (litD l) := ⟨⟨_, rfl⟩, rfl, (by show 1 ≤ 8; decide), (by show 1 ≤ 60; decide)⟩
theorem plain_lits : ∀ c : Cl, Sd.plains (c.map litD) = true
  | [] => rfl
  | l :: c => by
    show (Sd.plain (litD l) && Sd.plains (c.map litD)) = true
    rw [plain_lits c]
    rfl
theorem nk_lits : ∀ c : Cl, NestedKey.depthAll (Sd.nks (c.map litD)) ≤ 1
  | [] => Nat.zero_le _
  | l :: c => by
    have ih := nk_lits c
    show max (Sd.nk (litD l)).depth (NestedKey.depthAll (Sd.nks (c.map litD))) ≤ 1
    have e : (Sd.nk (litD l)).depth = 1 := rfl
    omega
theorem k8_cl (c : Cl) : Sd.K8 (clD c) := by
  have z1 := nk_lits c
  have z2 := dep_cl c
  refine ⟨⟨_, rfl⟩, plain_lits c, ?_, by omega⟩
  show NestedKey.depthAll (Sd.nks (c.map litD)) + 1 ≤ 8
  omega
theorem dle_total : PySem.W.TotalLe So.dle := by
  unfold So.dle PySem.W.dataLe
  exact PySem.W.sortLe_total _ _ _
theorem unmap {α : Type} {f : α → PyData} : ∀ {l : List PyData}, (∀ d ∈ l, ∃ x, f x = d) → ∃ m : List α, l = m.map f
  | [], _ => ⟨[], rfl⟩
  | d :: l, h => by
    obtain ⟨x, rfl⟩ := h d (List.mem_cons_self ..)
    obtain ⟨m, rfl⟩ := unmap fun e he => h e (List.mem_cons_of_mem _ he)
    exact ⟨x :: m, rfl⟩
theorem perm_unmap {α : Type} {f : α → PyData} (inj : ∀ x y, f x = f y → x = y) {l m : List α} (h : (l.map f).Perm (m.map f)) : l.Perm m := by
  classical
  refine List.perm_iff_count.mpr fun x => ?_
  have cnt : ∀ k : List α, (k.map f).count (f x) = k.count x := fun k => by
    rw [List.count_eq_countP, List.countP_map, List.count_eq_countP]
    refine List.countP_congr fun y _ => ?_
    simp only [Function.comp, beq_iff_eq]
    exact ⟨fun e => inj _ _ e, fun e => by rw [e]⟩
  rw [← cnt l, ← cnt m]
  exact List.perm_iff_count.mp h (f x)
end K12
namespace K12
local macro_rules | `(tactic| walk_at "rd") => `(tactic| repeat (first | refine ⟨rfl, ?_⟩ | refine ⟨_, rfl, ?_⟩ | refine ⟨_, _, rfl, rfl, ?_⟩ | refine ⟨⟨_, rfl⟩, ?_⟩))
open PySem PySem.Spec PyProof.Rows L2 Bx TL Dx Zx Ow Sup NdefX Px
/-! ### the order of literals -/
theorem lt_of {a b : List Nat} (h : a ≤ b) (hn : a ≠ b) : a < b := by
  by_cases c : a < b
  · exact c
  · exact absurd (List.le_antisymm h (List.not_lt.mp c)) hn
theorem dle_lit {x y : Lit} (h : So.dle (litD x) (litD y) = true) : x.1 = y.1 ∨ x.1.cps.toList < y.1.cps.toList := by
  have e : So.dle (litD x) (litD y) = !PySem.W.dataLt (litD y) (litD x) := rfl
  rw [e] at h
  unfold litD at h
  rw [PySem.W.dataLt_pair rfl rfl] at h
  by_cases c : y.1 = x.1
  · exact .inl c.symm
  · have z : PyData.eqv (.str y.1) (.str x.1) = false := by
      show (y.1 == x.1) = false
      exact beq_false_of_ne c
    rw [z, if_neg Bool.false_ne_true, PySem.W.dataLt_str, PySem.W.not_lt_str, decide_eq_true_iff] at h
    refine .inr ?_
    exact lt_of h fun e => c (by
      cases hy : y.1
      cases hx : x.1
      rw [hy, hx] at e
      simp only at e
      congr 1
      exact (Array.toList_inj.mp e).symm)
abbrev Up (c : Cl) : Prop := c.Pairwise fun x y => x.1.cps.toList < y.1.cps.toList
theorem up_of {ls : Cl} (h : (ls.map litD).Pairwise fun a b => So.dle a b = true) (nd : (ls.map (·.1)).Nodup) : Up ls := by
  have h1 : ls.Pairwise fun x y => So.dle (litD x) (litD y) = true := List.pairwise_map.mp h
  have h2 : ls.Pairwise fun x y => x.1 ≠ y.1 := List.pairwise_map.mp nd
  refine (h1.and h2).imp fun z => ?_
  exact (dle_lit z.1).resolve_left z.2
theorem nodup_cover : ∀ (ys ms : List Str), ys.Nodup → (∀ x, x ∈ ys → x ∈ ms) → (∀ x, x ∈ ms → x ∈ ys) → ms.length ≤ ys.length → ms.Nodup := by
  intro ys ms nd sub sup hl
  have key : ∀ (l m : List Str), l.Nodup → (∀ x, x ∈ l → x ∈ m) → l.length ≤ m.length := by
    intro l
    induction l with
    | nil => exact fun m _ _ => Nat.zero_le _
    | cons x l ih =>
      intro m nd sub
      obtain ⟨n1, n2⟩ := List.nodup_cons.mp nd
      have hx := sub x (List.mem_cons_self ..)
      have z := ih (m.erase x) n2 fun y hy => (List.mem_erase_of_ne fun e => n1 (by rw [← e]; exact hy)).mpr (sub y (List.mem_cons_of_mem _ hy))
      rw [List.length_erase_of_mem hx] at z
      have hp : 0 < m.length := List.length_pos_of_mem hx
      rw [List.length_cons]
      omega
  have e : ms.length = ys.length := Nat.le_antisymm hl (key ys ms nd sub)
  exact (Sx.perm_of_sub ys ms nd sub e).nodup_iff.mp nd
theorem nodup_le : ∀ (ms ys : List Str), ms.Nodup → (∀ x, x ∈ ms → x ∈ ys) → ms.length ≤ ys.length := by
  intro l
  induction l with
  | nil => exact fun m _ _ => Nat.zero_le _
  | cons x l ih =>
    intro m nd sub
    obtain ⟨n1, n2⟩ := List.nodup_cons.mp nd
    have hx := sub x (List.mem_cons_self ..)
    have z := ih (m.erase x) n2 fun y hy => (List.mem_erase_of_ne fun e => n1 (by rw [← e]; exact hy)).mpr (sub y (List.mem_cons_of_mem _ hy))
    rw [List.length_erase_of_mem hx] at z
    have hp : 0 < m.length := List.length_pos_of_mem hx
    rw [List.length_cons]
    omega
/-! ### resolvents -/
def lits (c d : Cl) (n : Str) : Cl := (c.filter fun l => decide (l ≠ (n, 1))) ++ d.filter fun l => decide (l ≠ (n, 0))
def IsRes (c d : Cl) (n : Str) : Option Cl → Prop
  | none => ∃ l ∈ lits c d n, ∃ l' ∈ lits c d n, l.1 = l'.1 ∧ l ≠ l'
  | some ls => (∀ l, l ∈ ls ↔ l ∈ lits c d n) ∧ Up ls
def OD (K : PySem.W.Frag) (H : Hp) (v : V) : Option Cl → Prop
  | none => v = .non
  | some ls => Dp K H v (clD ls)
theorem not_nodup : ∀ {ls : Cl}, ls.Nodup → ¬ (ls.map (·.1)).Nodup → ∃ l ∈ ls, ∃ l' ∈ ls, l.1 = l'.1 ∧ l ≠ l'
  | [], _, h => (h List.nodup_nil).elim
  | x :: ls, nd, h => by
    obtain ⟨n1, n2⟩ := List.nodup_cons.mp nd
    by_cases c : x.1 ∈ ls.map (·.1)
    · obtain ⟨y, hy, e⟩ := List.mem_map.mp c
      exact ⟨x, List.mem_cons_self .., y, List.mem_cons_of_mem _ hy, e.symm, fun z => n1 (z ▸ hy)⟩
    · have h2 : ¬ (ls.map (·.1)).Nodup := fun z => h (List.nodup_cons.mpr ⟨c, z⟩)
      obtain ⟨l, hl, l', hl', e⟩ := not_nodup n2 h2
      exact ⟨l, List.mem_cons_of_mem _ hl, l', List.mem_cons_of_mem _ hl', e⟩
section
variable {P : Program} {w : World} {K : PySem.W.Frag} {mg : Str → Option Value} {base : Heap}
theorem ne_lit (x y : Lit) : (!PyData.eqv (litD x) (litD y)) = decide (x ≠ y) := by
  rw [eqv_lit]
  by_cases h : x = y <;> simp [h]
theorem take_filterA {α : Type} {p : α → Bool} {l : List α} {i : Nat} {y : α} (h : l[i]? = some y) : (l.take (i + 1)).filter p = (l.take i).filter p ++ [y].filter p := by
  rw [List.take_add_one, h, List.filter_append]
  rfl
@[irreducible] def spRes (K : PySem.W.Frag) : Sp := fun vs H Q _ => ∃ (p q : Addr) (c d : Cl) (n : Str), vs = [.ref p, .ref q, .str n] ∧ Dp K H (.ref p) (clD c) ∧ Dp K H (.ref q) (clD d) ∧ OkC c ∧ OkC d ∧ PyData.strOk n = true ∧ c.length ≤ 20 ∧ d.length ≤ 20 ∧
  ∀ (v : V) (o : Option Cl) (H' : Hp), Same H H' → IsRes c d n o → OD K H' v o → Q v H'
theorem ok_resolvent {f : Addr} {fd : FuncData} (F : Fun K "resolvent" "resolvent" s_resolvent f fd) (m_len : mg "len" = none) (m_set : mg "set" = none) (m_sorted : mg "sorted" = none) (m_tuple : mg "tuple" = none) : FnOk P w K mg base CX0 1 f fd ["first", "second", "name"] (spRes K) := by
  refine F.ok sc_resolvent (fun vs H Q E h => ?_) (fun cdv A outer s H vs Q E hr h => ?_)
  · unfold spRes at h
    obtain ⟨p, q, c, d, n, rfl, _⟩ := h
    rfl
  · unfold spRes at h
    obtain ⟨p, q, c, d, n, rfl, hc, hd, oc, od, on, lc, ld, qq⟩ := h
    refine ⟨_, (pss_cons (ps_setLc (i := 3) (own := [("literal", 6)]) rfl sc_resolvent.nd rfl rfl (sw_true rfl rfl rfl (by decide +kernel)) (pi_tup (pv 0)) (blkOk_by (N := n_resolvent) (sc := defScope s_resolvent) (by decide +kernel)) (fun _ _ _ _ _ => pg_name (i := 6) sc_resolvent.nd rfl (Or.inl rfl)) (fun _ _ _ _ _ => pts_one (pt_cmpR (Sl.op_neDK (K := K) rfl hr.units) (pv 6) (pe_tup (pa_cons (pv 2) (pa_cons pe_int pa_nil))) (nomark _))) (fun _ _ _ _ _ => (pv 6)))
    (pss_cons (ps_setLc (i := 4) (own := [("literal", 6)]) rfl sc_resolvent.nd rfl rfl (sw_true rfl rfl rfl (by decide +kernel)) (pi_tup (pv 1)) (blkOk_by (N := n_resolvent) (sc := defScope s_resolvent) (by decide +kernel)) (fun _ _ _ _ _ => pg_name (i := 6) sc_resolvent.nd rfl (Or.inl rfl)) (fun _ _ _ _ _ => pts_one (pt_cmpR (Sl.op_neDK (K := K) rfl hr.units) (pv 6) (pe_tup (pa_cons (pv 2) (pa_cons pe_int pa_nil))) (nomark _))) (fun _ _ _ _ _ => (pv 6)))
    (pss_cons (ps_set (i := 5) sc_resolvent.nd rfl (Or.inl rfl) (pe_callB (id := "sorted") (Sd.cr_sortN (w := w) rfl rfl (room hr)) (by rfl) m_sorted (by decide +kernel) (pa_cons (pe_callTy (T := "set") (Sd.cr_setN (w := w) rfl rfl (room hr)) (by rfl) m_set (by decide +kernel) (pa_cons (pe_lst (StX.pa_star (pv 3) (StX.pa_star (pv 4) pa_nil))) pa_nil)) pa_nil)))
    (pss_cons (ps_if (pt_cmpR op_lt (pe_callB Sl.call_lenX (by rfl) m_len PySem.boot_len (pa_cons (pe_callTy (T := "set") (Sx.cr_setX rfl) (by rfl) m_set (by decide +kernel) (pa_cons (pe_lc (own := [("own", 7), ("_", 8)]) (tt := tYes) rfl sc_resolvent.nd (pi_list (pv 5)) (blkOk_by (N := n_resolvent) (sc := defScope s_resolvent) (by decide +kernel)) (fun _ _ _ _ _ => pg_tupK (K := K) (n := 2) rfl rfl (pgs_cons (pg_name (i := 7) sc_resolvent.nd rfl (Or.inl rfl)) (pgs_cons (pg_name (i := 8) sc_resolvent.nd rfl (Or.inl rfl)) pgs_nil))) (fun _ _ _ _ _ => pts_nil) (fun _ _ _ _ _ => (pv 7))) pa_nil)) pa_nil)) (pe_callB call_len_seq (by rfl) m_len PySem.boot_len (pa_cons (pv 5) pa_nil)) (nomark _))
      (pss_one (ps_ret pe_non))
      pss_nil)
    (pss_one (ps_ret (pe_callTy (T := "tuple") call_tuple_of (by rfl) m_tuple (by decide +kernel) (pa_cons (pv 5) pa_nil)))))))), ?_⟩
    walk_at "rd"
    obtain ⟨p', xs, ep, ht, ha⟩ := dp_tup hc
    cases ep
    have xl : xs.length = c.length := by rw [da_len ha, List.length_map]
    refine ⟨⟨_, ht⟩, fun D hD => ?_⟩
    refine lc_it walk_tup (fun i H' => Same H H' ∧ ∃ us, H' D = some (.lst us) ∧ DpAll K H' us (((c.take i).filter fun l => decide (l ≠ (n, 1))).map litD)) ⟨same_new hD, [], upd_same, .nil⟩ (fun i H' _ h => Bx.Same.tup h.1 ht) ?_ ?_
    · rintro i v H2 H3 hi ⟨s2, us, hM, hus⟩ ⟨rfl, hx⟩
      obtain ⟨l, hl, dl⟩ := da_atM ha hx
      refine ⟨rfl, ?_⟩
      walk_at "rd"
      refine ⟨sz (by show 2 ≤ 100000; decide), fun T nT => ?_⟩
      have s3 := same_new nT (o := .tup [.str n, .int 1])
      have hT := upd_same (H := H3) (a := T) (o := .tup [.str n, .int 1])
      generalize upd H3 T (.tup [.str n, .int 1]) = H4 at s3 hT ⊢
      have dl4 := dp_same (s2.trans s3) dl
      have hM4 := s3 _ _ hM
      have hus4 := dpAll_same s3 hus
      refine ⟨litD l, litD (n, 1), dl4, dp_lit (sqt hT), sh_lit (oc l (List.mem_of_getElem? hl)), sh_lit (l := (n, 1)) on, ?_⟩
      rw [ne_lit]
      refine ⟨_, rfl, ite2 (fun h6 => ?_) (fun h6 => ?_)⟩
      · walk_at "rd"
        have ul : us.length ≤ 20 := by
          rw [da_len hus, List.length_map]
          exact Nat.le_trans (Nat.le_trans (List.length_filter_le _ _) (List.length_take_le' i c)) (by omega)
        refine ⟨us, hM4, szl (by omega), same_at hD (s2.trans s3), us ++ [v], upd_same, ?_⟩
        rw [take_filterA hl, List.filter_cons, if_pos h6, List.filter_nil, List.map_append]
        exact da_app (da_tk (tk_lst hM4) _ _ (tup_lits _) hus4) (da_one (dp_tk (tk_lst hM4) _ _ rfl dl4))
      · rw [take_filterA hl, List.filter_cons, if_neg h6, List.filter_nil, List.append_nil]
        exact ⟨s2.trans s3, us, hM4, hus4⟩
    rintro H1 ⟨s1, us, hM, hus⟩
    rw [xl, List.take_length] at hus
    walk_at "rd"
    obtain ⟨q', xs2, eq, ht2, ha2⟩ := dp_tup hd
    cases eq
    have xl2 : xs2.length = d.length := by rw [da_len ha2, List.length_map]
    have ht21 := Bx.Same.tup s1 ht2
    refine ⟨⟨_, ht21⟩, fun D2 hD2 => ?_⟩
    refine lc_it walk_tup (fun i H' => Same H1 H' ∧ ∃ us, H' D2 = some (.lst us) ∧ DpAll K H' us (((d.take i).filter fun l => decide (l ≠ (n, 0))).map litD)) ⟨same_new hD2, [], upd_same, .nil⟩ (fun i H' _ h => Bx.Same.tup h.1 ht21) ?_ ?_
    · rintro i v H2 H3 hi ⟨s2, us, hM, hus⟩ ⟨rfl, hx⟩
      obtain ⟨l, hl, dl⟩ := da_atM ha2 hx
      refine ⟨rfl, ?_⟩
      walk_at "rd"
      refine ⟨sz (by show 2 ≤ 100000; decide), fun T nT => ?_⟩
      have s3 := same_new nT (o := .tup [.str n, .int 0])
      have hT := upd_same (H := H3) (a := T) (o := .tup [.str n, .int 0])
      generalize upd H3 T (.tup [.str n, .int 0]) = H4 at s3 hT ⊢
      have dl4 := dp_same (s1.trans (s2.trans s3)) dl
      have hM4 := s3 _ _ hM
      have hus4 := dpAll_same s3 hus
      refine ⟨litD l, litD (n, 0), dl4, dp_lit (sqt hT), sh_lit (od l (List.mem_of_getElem? hl)), sh_lit (l := (n, 0)) on, ?_⟩
      rw [ne_lit]
      refine ⟨_, rfl, ite2 (fun h6 => ?_) (fun h6 => ?_)⟩
      · walk_at "rd"
        have ul : us.length ≤ 20 := by
          rw [da_len hus, List.length_map]
          exact Nat.le_trans (Nat.le_trans (List.length_filter_le _ _) (List.length_take_le' i d)) (by omega)
        refine ⟨us, hM4, szl (by omega), same_at hD2 (s2.trans s3), us ++ [v], upd_same, ?_⟩
        rw [take_filterA hl, List.filter_cons, if_pos h6, List.filter_nil, List.map_append]
        exact da_app (da_tk (tk_lst hM4) _ _ (tup_lits _) hus4) (da_one (dp_tk (tk_lst hM4) _ _ rfl dl4))
      · rw [take_filterA hl, List.filter_cons, if_neg h6, List.filter_nil, List.append_nil]
        exact ⟨s2.trans s3, us, hM4, hus4⟩
    rintro H2 ⟨s2, us2, hM2, hus2⟩
    rw [xl2, List.take_length] at hus2
    have hM1 := s2 _ _ hM
    have hus1 := dpAll_same s2 hus
    walk_at "rd"
    have ul1 : us.length ≤ 20 := by
      rw [da_len hus, List.length_map]
      exact Nat.le_trans (List.length_filter_le _ _) lc
    have ul2 : us2.length ≤ 20 := by
      rw [da_len hus2, List.length_map]
      exact Nat.le_trans (List.length_filter_le _ _) ld
    refine ⟨D, us, rfl, .inr (sq hM1), ?_⟩
    walk_at "rd"
    refine ⟨D2, us2, rfl, .inr (sq hM2), ?_⟩
    walk_at "rd"
    refine ⟨sz (by rw [List.append_nil, List.length_append]; omega), fun L nL => ?_⟩
    have s3 := same_new nL (o := .lst (us ++ (us2 ++ [])))
    have dL : DpAll K H2 (us ++ (us2 ++ [])) ((lits c d n).map litD) := by
      unfold lits
      rw [List.map_append, List.append_nil]
      exact da_app hus1 hus2
    have ll : (lits c d n).length ≤ 40 := by
      have z := da_len dL
      rw [List.append_nil, List.length_append, List.length_map] at z
      omega
    walk_at "rd"
    refine ⟨L, _, (lits c d n).map litD, rfl, .inl (sq upd_same), dpAll_same s3 dL, fun e he => (by obtain ⟨l, _, rfl⟩ := List.mem_map.mp he; exact k8_lit l), by rw [List.length_map]; omega, fun S L2 es nS dS kS ndS mS lS => ?_⟩
    obtain ⟨fs, rfl⟩ := unmap (f := litD) (l := es) fun e he => (by obtain ⟨l, _, e⟩ := List.mem_map.mp ((mS e).mp he); exact ⟨l, e⟩)
    have s4 := same_new nS (o := Sd.SetN w S L2)
    rw [List.length_map, List.length_map] at lS
    have dS2 := dpAll_same s4 dS
    refine ⟨S, L2, fs.map litD, rfl, upd_same, dS2, kS, all_alike alike_lit fs, fun e he => (by obtain ⟨l, _, rfl⟩ := List.mem_map.mp he; exact k8_lit l), by rw [List.length_map]; omega, fun ys gs R nR pg dR => ?_⟩
    have s5 := same_new nR (o := .lst ys)
    have hR := upd_same (H := upd (upd H2 L (.lst (us ++ (us2 ++ [])))) S (Sd.SetN w S L2)) (a := R) (o := .lst ys)
    have sA := (s1.trans s2).trans (s3.trans (s4.trans s5))
    have dR2 := dpAll_same s5 dR
    have pm : (gs.mergeSort So.dle).Perm (fs.map litD) := (List.mergeSort_perm _ _).trans pg
    have srt := PySem.W.sort_pairwise dle_total gs
    obtain ⟨ls, els⟩ := unmap (f := litD) (l := gs.mergeSort So.dle) fun e he => (by obtain ⟨l, _, e⟩ := List.mem_map.mp (pm.mem_iff.mp he); exact ⟨l, e⟩)
    rw [els] at dR2 pm srt
    have pe : ls.Perm fs := perm_unmap (fun x y e => lit_inj e) pm
    have ndE : ls.Nodup := pe.nodup_iff.mpr (Sd.nodup_of litD ndS)
    have mE : ∀ l, l ∈ ls ↔ l ∈ lits c d n := fun l => by
      rw [pe.mem_iff]
      have z := mS (litD l)
      rw [List.mem_map, List.mem_map] at z
      constructor
      · intro h
        obtain ⟨c', h1, h2⟩ := z.mp ⟨l, h, rfl⟩
        rw [← lit_inj h2]
        exact h1
      · intro h
        obtain ⟨c', h1, h2⟩ := z.mpr ⟨l, h, rfl⟩
        rw [← lit_inj h2]
        exact h1
    have lE : ls.length ≤ 40 := by rw [pe.length_eq]; omega
    generalize upd (upd (upd H2 L (.lst (us ++ (us2 ++ [])))) S (Sd.SetN w S L2)) R (.lst ys) = H3 at sA hR dR2 ⊢
    clear dR s5 dS2 s4 dS s3
    have yl : ys.length = ls.length := by rw [da_len dR2, List.length_map]
    walk_at "rd"
    refine ⟨⟨_, sq hR⟩, fun D3 hD3 => ?_⟩
    refine lc_it walk_list (fun i H' => H' = upd H3 D3 (.lst (((ls.take i).map (·.1)).map V.str))) rfl (fun i H' _ e => e ▸ sq (same_new hD3 _ _ hR)) ?_ ?_
    · rintro i v H4 H5 hi rfl ⟨rfl, hx⟩
      obtain ⟨l, hl, dl⟩ := da_atM dR2 hx
      obtain ⟨b, rfl, hb⟩ := lit_dp (dp_same (same_new hD3 (o := .lst (((ls.take i).map (·.1)).map V.str))) dl)
      refine ⟨b, _, rfl, hb, rfl, _, _, rfl, _, _, rfl, rfl, rfl, ?_⟩
      walk_at "rd"
      refine ⟨_, upd_same, ?_, ?_⟩
      · rw [List.length_map, List.length_map]
        exact szl (Nat.lt_of_le_of_lt (List.length_take_le' i ls) (by omega))
      · rw [upd_upd, List.take_add_one, hl, List.map_append, List.map_append]
        rfl
    rintro H4 rfl
    rw [yl, List.take_length]
    have s6 := same_new hD3 (o := .lst ((ls.map (·.1)).map V.str))
    refine ⟨D3, ls.map (·.1), rfl, .inl (sq upd_same), by rw [List.length_map]; omega, fun p1 ns n1 hm nd hlen => ?_⟩
    have s7 := same_new n1 (o := Sx.SetV P w p1 ns)
    rw [List.length_map] at hlen
    refine ⟨p1, ns, rfl, upd_same, by omega, ?_⟩
    walk_at "rd"
    refine ⟨R, ys, rfl, .inl (sq (s7 _ _ (s6 _ _ hR))), ?_⟩
    have sB := sA.trans (s6.trans s7)
    walk_at "rd"
    refine ite2 (fun h6 => ?_) (fun h6 => ?_)
    · have h7 : ns.length < ls.length := by
        have z : ((ns.length : Nat) : Int) < (ys.length : Nat) := of_decide_eq_true h6
        rw [yl] at z
        omega
      walk_at "rd"
      refine qq .non none _ sB ?_ rfl
      obtain ⟨l, hl, l', hl', e⟩ := not_nodup ndE fun z => by
        have q := nodup_le _ ns z fun x hx => (hm x).mpr hx
        rw [List.length_map] at q
        omega
      exact ⟨l, (mE l).mp hl, l', (mE l').mp hl', e⟩
    · have h7 : ls.length ≤ ns.length := by
        have z : ¬ ((ns.length : Nat) : Int) < (ys.length : Nat) := of_decide_eq_false (by simpa using h6)
        rw [yl] at z
        omega
      walk_at "rd"
      refine ⟨R, _, rfl, .inl ⟨sq (s7 _ _ (s6 _ _ hR)), fun r nr => ?_⟩⟩
      have s8 := same_new nr (o := .tup ys)
      refine qq (.ref r) (some ls) _ (sB.trans s8) ⟨mE, up_of srt ?_⟩ (.tup (sqt upd_same) (dpAll_same (s6.trans (s7.trans s8)) dR2))
      exact nodup_cover ns _ nd (fun x hx => (hm x).mp hx) (fun x hx => (hm x).mpr hx) (by rw [List.length_map]; exact h7)
end
end K12
namespace K12
local macro_rules | `(tactic| walk_at "rd") => `(tactic| repeat (first | refine ⟨rfl, ?_⟩ | refine ⟨_, rfl, ?_⟩ | refine ⟨_, _, rfl, rfl, ?_⟩ | refine ⟨⟨_, rfl⟩, ?_⟩))
open PySem PySem.Spec PyProof.Rows L2 Bx TL Dx Zx Ow Sup NdefX Px
/-! ### assignments -/
abbrev As := List (Str × Int)
def asV (l : As) : List (Key × V) := l.map fun p => (.inr p.1, .int p.2)
def vl (l : As) (z : Str) : Int := ((l.find? fun p => decide (p.1 = z)).map (·.2)).getD 0
theorem val_as : ∀ (l : As) (z : Str), valV (asV l) (.inr z) = ((l.find? fun p => decide (p.1 = z)).map (·.2)).map V.int
  | [], _ => rfl
  | p :: r, z => by
    have ih := val_as r z
    by_cases e : p.1 = z
    · have e2 : ((.inr p.1 : Key), V.int p.2).1 = .inr z := congrArg Sum.inr e
      show valV (((.inr p.1 : Key), V.int p.2) :: asV r) (.inr z) = _
      rw [valV_pos e2, List.find?_cons, decide_eq_true e]
      rfl
    · have e2 : ¬ ((.inr p.1 : Key), V.int p.2).1 = .inr z := fun h => e (Sum.inr.inj h)
      show valV (((.inr p.1 : Key), V.int p.2) :: asV r) (.inr z) = _
      rw [valV_neg e2, List.find?_cons, decide_eq_false e]
      exact ih
theorem has_as {l : As} {z : Str} (h : z ∈ l.map (·.1)) : valV (asV l) (.inr z) = some (.int (vl l z)) := by
  rw [val_as]
  unfold vl
  cases e : l.find? fun p => decide (p.1 = z) with
  | none =>
    obtain ⟨p, hp, rfl⟩ := List.mem_map.mp h
    have := List.find?_eq_none.mp e p hp
    simp at this
  | some p => rfl
abbrev Kn (l : As) (c : Cl) : Prop := ∀ x ∈ c, x.1 ∈ l.map (·.1)
def hold (f : Str → Int) (c : Cl) : Bool := c.any fun x => decide (f x.1 = x.2)
section
variable {P : Program} {w : World} {K : PySem.W.Frag} {mg : Str → Option Value} {base : Heap}
end
end K12
namespace K12
local macro_rules | `(tactic| walk_at "rd") => `(tactic| repeat (first | refine ⟨rfl, ?_⟩ | refine ⟨_, rfl, ?_⟩ | refine ⟨_, _, rfl, rfl, ?_⟩ | refine ⟨⟨_, rfl⟩, ?_⟩))
open PySem PySem.Spec PyProof.Rows L2 Bx TL Dx Zx Ow Sup NdefX Px
theorem app_len (x y : Str) : (x ++ y).length = x.length + y.length := by
  rw [len_tl, tl_append, List.length_append, ← len_tl, ← len_tl]
theorem set_gi {te : TE} {i : Nat} {D : Ends} {rest : TS} {σ : List (Option V)} {H : Hp} (R : V → Hp → Prop) (h : ∀ Z : VK, (∀ v H', R v H' → Z v H') → te σ H Z) (k : ∀ v H', R v H' → rest D (σ.set i (some v)) H') : tSeq (tAsg te (gName i)) rest D σ H :=
  h (fun v H' => rest D (σ.set i (some v)) H') k
theorem st_gi {t : TS} {i : Nat} {D : Ends} {rest : TS} {σ : List (Option V)} {H : Hp} (R : V → Hp → Prop) (h : ∀ D' : Ends, (∀ v H', R v H' → D'.nx (σ.set i (some v)) H') → t D' σ H) (k : ∀ v H', R v H' → rest D (σ.set i (some v)) H') : tSeq t rest D σ H :=
  h { D with nx := rest D } k
section
variable {P : Program} {w : World} {K : PySem.W.Frag} {mg : Str → Option Value} {base : Heap}
/-! ### the law's own: draws -/
theorem int_at {ns : List Int} {k : Nat} (h : k < ns.length) : atI (ns.map V.int) (k : Int) = some (V.int ns[k]) := atI_nat (by rw [List.getElem?_map, List.getElem?_eq_getElem h]; rfl)
def spSource (K : PySem.W.Frag) : Sp := fun vs H Q _ => ∃ (a : Addr) (ns : List Int) (k : Nat), vs = [.ref a, .int (k : Int)] ∧ SqL K H a (ns.map V.int) ∧ k ≤ 100 ∧ ∀ p n c, H p = none → Q (.ref p) (upd H p (.lst [.int n, .int c]))
theorem ok_source {f : Addr} {fd : FuncData} (F : Fun K "_law_source" "_law_source" s__law_source f fd) (m_len : mg "len" = none) (m_int : mg "int" = none) : FnOk P w K mg base CX0 1 f fd ["_law_script", "_law_k"] (spSource K) := by
  refine F.ok sc__law_source (fun vs H Q E h => ?_) (fun cdv A outer s H vs Q E hr h => ?_)
  · obtain ⟨a, ns, k, rfl, _⟩ := h
    rfl
  · obtain ⟨a, ns, k, rfl, hS, hk, q⟩ := h
    refine ⟨_, (pss_cons (ps_set (i := 2) sc__law_source.nd rfl (Or.inl rfl) pe_int)
    (pss_cons (ps_if (pt_cmpR op_lt (pv 1) (pe_callB call_len_seq (by rfl) m_len PySem.boot_len (pa_cons (pv 0) pa_nil)) (nomark _))
      (pss_one (ps_set (i := 2) sc__law_source.nd rfl (Or.inl rfl) (pe_callTy (T := "int") call_int1 (by rfl) m_int (by decide +kernel) (pa_cons (pe_ix ix_list (pv 0) (pv 1) (fun _ _ => rfl)) pa_nil))))
      pss_nil)
    (pss_one (ps_ret (pe_lst (pa_cons (pv 2) (pa_cons (pe_op op_add (pe_op op_mul pe_int (pv 1)) (pe_callB call_len_seq (by rfl) m_len PySem.boot_len (pa_cons (pv 0) pa_nil))) pa_nil))))))), ?_⟩
    walk_at "rd"
    refine ⟨_, _, rfl, .inl hS, ?_⟩
    walk_at "rd"
    refine ite2 (fun h0 => ?_) (fun h0 => ?_)
    · have h1 : (k : Int) < ((ns.map V.int).length : Nat) := of_decide_eq_true h0
      rw [List.length_map] at h1
      walk_at "rd"
      refine ⟨_, _, _, _, rfl, rfl, hS, int_at (k := k) (by omega), ?_⟩
      refine .inl ⟨_, rfl, ?_⟩
      walk_at "rd"
      refine ⟨.inr ⟨by omega, by omega⟩, ?_⟩
      walk_at "rd"
      refine ⟨_, _, rfl, .inl hS, ?_⟩
      walk_at "rd"
      exact ⟨sz (by show 2 ≤ 100000; decide), fun p np => q p _ _ np⟩
    · walk_at "rd"
      refine ⟨.inr ⟨by omega, by omega⟩, ?_⟩
      walk_at "rd"
      refine ⟨_, _, rfl, .inl hS, ?_⟩
      walk_at "rd"
      exact ⟨sz (by show 2 ≤ 100000; decide), fun p np => q p _ _ np⟩
theorem modb (x : Int) {k : Int} (h : 0 < k) (h2 : k ≤ 2 ^ 64) : -(2 ^ 64) < x % k ∧ x % k < 2 ^ 64 := by
  have a := Int.emod_nonneg x (show k ≠ 0 by omega)
  have b := Int.emod_lt_of_pos x h
  omega
@[irreducible] def spDraw : Sp := fun vs H Q _ => ∃ (a : Addr) (n c lim : Int), vs = [.ref a, .int lim] ∧ H a = some (.lst [.int n, .int c]) ∧ 0 < lim ∧ lim < 1073741824 ∧ ∀ r n' c', 0 ≤ r → r < lim → Q (.int r) (upd H a (.lst [.int n', .int c']))
theorem ok_draw {f : Addr} {fd : FuncData} (F : Fun K "_law_draw" "_law_draw" s__law_draw f fd) (m_int : mg "int" = none) : FnOk P w K mg base CX0 1 f fd ["_law_source_here", "_law_limit"] spDraw := by
  refine F.ok sc__law_draw (fun vs H Q E h => ?_) (fun cdv A outer s H vs Q E hr h => ?_)
  · unfold spDraw at h
    obtain ⟨a, n, c, lim, rfl, _⟩ := h
    rfl
  · unfold spDraw at h
    obtain ⟨a, n, c, lim, rfl, hA, h0, h1, q⟩ := h
    have hfm : ∀ x : Int, 0 ≤ x.fmod lim ∧ x.fmod lim < lim := fun x => by
      rw [Int.fmod_eq_emod_of_nonneg _ (by omega)]
      exact ⟨Int.emod_nonneg _ (by omega), Int.emod_lt_of_pos _ h0⟩
    refine ⟨_, (pss_cons (ps_set (i := 2) sc__law_draw.nd rfl (Or.inl rfl) (pe_ix ix_list (pv 0) pe_int (fun _ _ => rfl)))
    (pss_cons (ps_if (pt_cmpR op_ge (pv 2) (pe_op op_pow pe_int pe_int) (nomark _))
      (pss_cons (ps_asg (pe_op op_fdivN (pv 2) (pv 1)) (pg_sub (pv 0) pe_int set_list))
    (pss_one (ps_ret (pe_op op_modN (pe_callTy (T := "int") call_int1 (by rfl) m_int (by decide +kernel) (pa_cons (pv 2) pa_nil)) (pv 1)))))
      pss_nil)
    (pss_cons (ps_asg (pe_op op_add (pe_ix ix_list (pv 0) pe_int (fun _ _ => rfl)) pe_int) (pg_sub (pv 0) pe_int set_list))
    (pss_cons (ps_set (i := 3) sc__law_draw.nd rfl (Or.inl rfl) (pe_op op_mod (pe_callTy (T := "int") call_int1 (by rfl) m_int (by decide +kernel) (pa_cons (pe_op op_add (pe_op op_add (pe_op op_mul (pv 2) pe_int) (pe_op op_mul (pe_ix ix_list (pv 0) pe_int (fun _ _ => rfl)) pe_int)) pe_int) pa_nil)) pe_int))
    (pss_cons (ps_set (i := 3) sc__law_draw.nd rfl (Or.inl rfl) (pe_op op_mod (pe_callTy (T := "int") call_int1 (by rfl) m_int (by decide +kernel) (pa_cons (pe_op op_add (pe_op op_add (pe_op op_mul (pv 3) (pv 3)) (pv 2)) (pe_op op_mul (pe_ix ix_list (pv 0) pe_int (fun _ _ => rfl)) pe_int)) pa_nil)) pe_int))
    (pss_cons (ps_set (i := 3) sc__law_draw.nd rfl (Or.inl rfl) (pe_op op_mod (pe_callTy (T := "int") call_int1 (by rfl) m_int (by decide +kernel) (pa_cons (pe_op op_add (pe_op op_add (pe_op op_mul (pv 3) (pv 3)) (pe_op op_fdiv (pv 3) pe_int)) pe_int) pa_nil)) pe_int))
    (pss_one (ps_ret (pe_op op_modN (pe_op op_fdiv (pe_callTy (T := "int") call_int1 (by rfl) m_int (by decide +kernel) (pa_cons (pv 3) pa_nil)) pe_int) (pv 1)))))))))), ?_⟩
    walk_at "rd"
    refine ⟨_, _, _, _, rfl, rfl, sq hA, atI_nat (j := 0) rfl, ?_⟩
    walk_at "rd"
    refine ⟨⟨by decide, by decide, by decide⟩, ?_⟩
    walk_at "rd"
    refine ite2 (fun hb => ?_) (fun hb => ?_)
    · walk_at "rd"
      refine ⟨⟨by omega, by omega⟩, ?_⟩
      walk_at "rd"
      refine ⟨_, _, _, 0, rfl, rfl, hA, rfl, ?_⟩
      walk_at "rd"
      refine .inl ⟨_, rfl, ?_⟩
      walk_at "rd"
      refine ⟨by omega, ?_⟩
      exact q _ _ _ (hfm _).1 (hfm _).2
    · walk_at "rd"
      refine ⟨_, _, _, _, rfl, rfl, sq hA, atI_nat (j := 1) rfl, ?_⟩
      walk_at "rd"
      refine ⟨_, _, _, 1, rfl, rfl, hA, rfl, ?_⟩
      -- the first mixing
      walk_at "rd"
      refine ⟨.inr ⟨by decide, by decide⟩, ?_⟩
      walk_at "rd"
      refine ⟨_, _, _, _, rfl, rfl, sq upd_same, atI_nat (j := 1) rfl, ?_⟩
      walk_at "rd"
      refine ⟨.inr ⟨by decide, by decide⟩, ?_⟩
      walk_at "rd"
      refine .inl ⟨_, rfl, ?_⟩
      walk_at "rd"
      refine ⟨by show (0 : Int) < 2147483647; decide, ?_⟩
      -- the second
      walk_at "rd"
      refine ⟨.inl (modb _ (by decide) (by decide)), ?_⟩
      walk_at "rd"
      refine ⟨_, _, _, _, rfl, rfl, sq upd_same, atI_nat (j := 1) rfl, ?_⟩
      walk_at "rd"
      refine ⟨.inr ⟨by decide, by decide⟩, ?_⟩
      walk_at "rd"
      refine .inl ⟨_, rfl, ?_⟩
      walk_at "rd"
      refine ⟨by show (0 : Int) < 2147483629; decide, ?_⟩
      -- the third
      walk_at "rd"
      refine ⟨.inl (modb _ (by decide) (by decide)), ?_⟩
      walk_at "rd"
      refine ⟨⟨by decide, by decide⟩, ?_⟩
      walk_at "rd"
      refine .inl ⟨_, rfl, ?_⟩
      walk_at "rd"
      refine ⟨by show (0 : Int) < 2147483587; decide, ?_⟩
      -- the answer
      walk_at "rd"
      refine .inl ⟨_, rfl, ?_⟩
      walk_at "rd"
      refine ⟨⟨by decide, by decide⟩, ?_⟩
      walk_at "rd"
      refine ⟨by omega, ?_⟩
      exact q _ _ _ (hfm _).1 (hfm _).2
/-- some other source, or none -/
theorem draw_of {H : Hp} {a : Addr} {lim : Int} {Q : VK} {E : XK} (hA : Src H a) (h0 : 0 < lim ∧ lim < 1073741824) (q : ∀ r H', 0 ≤ r → r < lim → SameBut a H H' → Src H' a → Q (.int r) H') : spDraw [.ref a, .int lim] H Q E := by
  obtain ⟨n, c, hA⟩ := hA
  unfold spDraw
  exact ⟨a, n, c, lim, rfl, hA, h0.1, h0.2, fun r n' c' h1 h2 => q r _ h1 h2 SameBut.upd ⟨n', c', upd_same⟩⟩
abbrev CDraw (P : Program) (w : World) (K : PySem.W.Frag) (mg : Str → Option Value) (base : Heap) : Prop := Cal P w K mg base "_law_draw" 1 ["_law_source_here", "_law_limit"] spDraw
/-! ### names -/
/-- a text of a drawn name -/
def Tx (n : Nat) (z : Str) : Prop := 1 ≤ z.length ∧ z.length ≤ n ∧ ∀ c ∈ tl z, c < 0x110000
theorem Tx.le {n m : Nat} {z : Str} (h : Tx n z) (l : n ≤ m) : Tx m z := ⟨h.1, Nat.le_trans h.2.1 l, h.2.2⟩
theorem Tx.ok {n : Nat} {z : Str} (h : Tx n z) : PyData.strOk z = true := by
  unfold PyData.strOk
  rw [Array.all_eq_true']
  intro c hc
  exact decide_eq_true (h.2.2 c (by simpa using hc))
theorem Tx.app {n m : Nat} {x y : Str} (a : Tx n x) (b : y.length ≤ m ∧ ∀ c ∈ tl y, c < 0x110000) : Tx (n + m) (x ++ y) := by
  have e := app_len x y
  refine ⟨by have := a.1; omega, by have := a.2.1; have := b.1; omega, fun c hc => ?_⟩
  rw [tl_append] at hc
  rcases List.mem_append.mp hc with h | h
  · exact a.2.2 c h
  · exact b.2 c h
theorem tx_sign {L : Str} {c : Nat} (h : (tl L).all (fun d => decide (d < 0x110000)) = true) (hc : c ∈ tl L) : Tx 1 (⟨#[c]⟩ : Str) := by
  refine ⟨Nat.le_refl _, Nat.le_refl _, fun d hd => ?_⟩
  have e : d = c := by simpa using hd
  rw [e]
  exact of_decide_eq_true (List.all_eq_true.mp h c hc)
theorem tx_cut {n : Nat} {z : Str} (h : Tx n z) : (cutS z none (some 1)).length ≤ 1 ∧ ∀ c ∈ tl (cutS z none (some 1)), c < 0x110000 := by
  have e : tl (cutS z none (some 1)) = (tl z).take 1 := by
    show ((tl z).drop (HT.sIx z.length 0 none)).take (HT.sIx z.length z.length (some ((1 : Nat) : Int)) - HT.sIx z.length 0 none) = _
    rw [HT.sIx_none, HT.sIx_nat, List.drop_zero, Nat.sub_zero, Nat.min_eq_left h.1]
  refine ⟨?_, fun c hc => ?_⟩
  · rw [len_tl, e]
    exact List.length_take_le ..
  · rw [e] at hc
    exact h.2.2 c (List.mem_of_mem_take hc)
end
end K12
namespace K12
local macro_rules | `(tactic| walk_at "rd") => `(tactic| repeat (first | refine ⟨rfl, ?_⟩ | refine ⟨_, rfl, ?_⟩ | refine ⟨_, _, rfl, rfl, ?_⟩ | refine ⟨⟨_, rfl⟩, ?_⟩))
open PySem PySem.Spec PyProof.Rows L2 Bx TL Dx Zx Ow Sup NdefX Px
/-! ### lines -/
inductive Ln where
  | giv (i : Int)
  | cut (i j : Int) (n : Str)
deriving DecidableEq
def lnD : Ln → PyData
  | .giv i => .tuple [.str (Str.ofString "given"), .int i]
  | .cut i j n => .tuple [.str (Str.ofString "cut"), .int i, .int j, .str n]
/-- the clause at a place, if there is one -/
def clAt (cs : List Cl) (i : Int) : Option Cl := if 0 ≤ i then cs[i.toNat]? else none
/-- what a line derives -/
def Der (cs bs : List Cl) : Ln → Option Cl → Prop
  | .giv i, o => o = clAt cs i
  | .cut i j n, o => match clAt bs i, clAt bs j with
    | some c, some d => if (n, (1 : Int)) ∈ c ∧ (n, (0 : Int)) ∈ d then IsRes c d n o else o = none
    | _, _ => o = none
theorem clAt_mem {cs : List Cl} {i : Int} {c : Cl} (h : clAt cs i = some c) : c ∈ cs := by
  unfold clAt at h
  split at h
  · exact List.mem_of_getElem? h
  · cases h
section
variable {P : Program} {w : World} {K : PySem.W.Frag} {mg : Str → Option Value} {base : Heap}
theorem od_of {H : Hp} {xs : List V} {cs : List Cl} (hd : DpAll K H xs (cs.map clD)) {i : Nat} {v : V} (h : xs[i]? = some v) : ∃ c, cs[i]? = some c ∧ OD K H v (some c) := by
  obtain ⟨c, h1, h2⟩ := da_atM hd h
  exact ⟨c, h1, h2⟩
@[irreducible] def spClAt (K : PySem.W.Frag) : Sp := fun vs H Q _ => ∃ (p : Addr) (xs : List V) (cs : List Cl) (i : Int), vs = [.ref p, .int i] ∧ (SqL K H p xs ∨ SqT K H p xs) ∧ DpAll K H xs (cs.map clD) ∧ i.natAbs < 1000000 ∧ cs.length ≤ 1000 ∧ ∀ v, OD K H v (clAt cs i) → Q v H
theorem ok_clause_at {f : Addr} {fd : FuncData} (F : Fun K "_clause_at" "_clause_at" s__clause_at f fd) (m_len : mg "len" = none) : FnOk P w K mg base CX0 1 f fd ["clauses", "index"] (spClAt K) := by
  refine F.ok sc__clause_at (fun vs H Q E h => ?_) (fun cdv A outer s H vs Q E hr h => ?_)
  · unfold spClAt at h
    obtain ⟨p, xs, cs, i, rfl, _⟩ := h
    rfl
  · unfold spClAt at h
    obtain ⟨p, xs, cs, i, rfl, hp, hd, hi, hl, q⟩ := h
    have xl : xs.length = cs.length := by rw [da_len hd, List.length_map]
    refine ⟨_, (pss_one (ps_ret (pe_ifExp (pt_chain op_le op_lt pe_int (pv 1) (pe_callB call_len_seq (by rfl) m_len PySem.boot_len (pa_cons (pv 0) pa_nil))) (pe_ix ix_seq (pv 0) (pv 1) (fun _ _ => rfl)) pe_non))), ?_⟩
    walk_at "rd"
    have none' : clAt cs i = none → Q .non H := fun e => q .non (by rw [e]; rfl)
    refine ite2 (fun h6 => ?_) (fun h6 => ?_)
    · have h0 : 0 ≤ i := of_decide_eq_true h6
      walk_at "rd"
      refine ⟨p, xs, rfl, hp, ?_⟩
      walk_at "rd"
      refine ite2 (fun h7 => ?_) (fun h7 => ?_)
      · have h1 : i < (xs.length : Int) := of_decide_eq_true h7
        walk_at "rd"
        obtain ⟨n, rfl⟩ := Int.eq_ofNat_of_zero_le h0
        have hn : n < xs.length := by omega
        have ev := List.getElem?_eq_getElem hn
        obtain ⟨c, hc, hov⟩ := od_of hd ev
        have ec : clAt cs (n : Int) = some c := by
          unfold clAt
          rw [if_pos h0]
          exact hc
        have fin := q xs[n] (by rw [ec]; exact hov)
        rcases hp with hp | hp
        · exact .inl ⟨_, _, _, _, rfl, rfl, hp, atI_nat ev, fin⟩
        · exact .inr (.inl ⟨_, _, _, _, rfl, rfl, hp, atI_nat ev, fin⟩)
      · have h1 : ¬ i < (xs.length : Int) := of_decide_eq_false (by simpa using h7)
        walk_at "rd"
        refine none' ?_
        unfold clAt
        rw [if_pos h0]
        exact List.getElem?_eq_none (by omega)
    · have h0 : ¬ 0 ≤ i := of_decide_eq_false (by simpa using h6)
      walk_at "rd"
      refine none' ?_
      unfold clAt
      rw [if_neg h0]
/-- the line at v -/
def LnAt (K : PySem.W.Frag) (H : Hp) (v : V) (x : Ln) : Prop := Dp K H v (lnD x)
def OkLn : Ln → Prop
  | .giv i => i.natAbs < 1000000
  | .cut i j n => i.natAbs < 1000000 ∧ j.natAbs < 1000000 ∧ PyData.strOk n = true
def VCs (cs : List Cl) : Prop := ∀ c ∈ cs, OkC c ∧ c.length ≤ 20
@[irreducible] def spDer (K : PySem.W.Frag) : Sp := fun vs H Q _ => ∃ (p b : Addr) (v : V) (xs ys : List V) (cs bs : List Cl) (ln : Ln), vs = [.ref p, .ref b, v] ∧ SqT K H p xs ∧ DpAll K H xs (cs.map clD) ∧ SqL K H b ys ∧ DpAll K H ys (bs.map clD) ∧ Dp K H v (lnD ln) ∧ OkLn ln ∧ VCs cs ∧ VCs bs ∧ cs.length ≤ 1000 ∧ bs.length ≤ 1000 ∧
  ∀ (v : V) (o : Option Cl) (H' : Hp), Same H H' → Der cs bs ln o → OD K H' v o → Q v H'
theorem ok_derived {f : Addr} {fd : FuncData} (F : Fun K "_derived" "_derived" s__derived f fd) (C__clause_at : Cal P w K mg base "_clause_at" 1 ["clauses", "index"] (spClAt K)) (C_resolvent : Cal P w K mg base "resolvent" 1 ["first", "second", "name"] (spRes K)) : FnOk P w K mg base CX0 2 f fd ["clauses", "before", "line"] (spDer K) := by
  refine F.ok sc__derived (fun vs H Q E h => ?_) (fun cdv A outer s H vs Q E hr h => ?_)
  · unfold spDer at h
    obtain ⟨p, b, v, xs, ys, cs, bs, ln, rfl, _⟩ := h
    rfl
  · unfold spDer at h
    obtain ⟨p, b, v, xs, ys, cs, bs, ln, rfl, hp, hd, hb, hbd, hln, okl, vc, vb, lc, lb, q⟩ := h
    refine ⟨_, (pss_cons (ps_if (pt_cmpR op_eq (pe_ix ix_tup (pv 2) pe_int (fun _ _ => rfl)) pe_str (nomark _))
      (pss_one (ps_ret (pe_cal C__clause_at (hr.mono (by decide)) (pa_cons (pv 0) (pa_cons (pe_ix ix_tup (pv 2) pe_int (fun _ _ => rfl)) pa_nil)))))
      pss_nil)
    (pss_cons (ps_asg (pv 2) (pg_tup rfl (pgs_cons (pg_name (i := 5) sc__derived.nd rfl (Or.inl rfl)) (pgs_cons (pg_name (i := 6) sc__derived.nd rfl (Or.inl rfl)) (pgs_cons (pg_name (i := 7) sc__derived.nd rfl (Or.inl rfl)) (pgs_cons (pg_name (i := 8) sc__derived.nd rfl (Or.inl rfl)) pgs_nil))))))
    (pss_cons (ps_set (i := 3) sc__derived.nd rfl (Or.inl rfl) (pe_cal C__clause_at (hr.mono (by decide)) (pa_cons (pv 1) (pa_cons (pv 6) pa_nil))))
    (pss_cons (ps_set (i := 4) sc__derived.nd rfl (Or.inl rfl) (pe_cal C__clause_at (hr.mono (by decide)) (pa_cons (pv 1) (pa_cons (pv 7) pa_nil))))
    (pss_cons (ps_if (PW.pt (pw_or (pt_cmpR op_isN (pv 3) pe_non (nomark _)) (pw_or1 (pt_cmpR op_isN (pv 4) pe_non (nomark _)))))
      (pss_one (ps_ret pe_non))
      pss_nil)
    (pss_cons (ps_if (PW.pt (pw_or (pt_cmpR (Sl.op_notInT (K := K) rfl (room hr)) (pe_tup (pa_cons (pv 8) (pa_cons pe_int pa_nil))) (pv 3) (by rfl)) (pw_or1 (pt_cmpR (Sl.op_notInT (K := K) rfl (room hr)) (pe_tup (pa_cons (pv 8) (pa_cons pe_int pa_nil))) (pv 4) (by rfl)))))
      (pss_one (ps_ret pe_non))
      pss_nil)
    (pss_one (ps_ret (pe_cal C_resolvent (hr.mono (by decide)) (pa_cons (pv 3) (pa_cons (pv 4) (pa_cons (pv 8) pa_nil)))))))))))), ?_⟩
    walk_at "rd"
    cases ln with
    | giv i =>
      obtain ⟨t, us, rfl, ht, ha⟩ := dp_tup hln
      cases ha with
      | cons a1 ha =>
      cases ha with
      | cons a2 ha =>
      cases ha
      cases a1
      cases a2
      refine ⟨_, _, _, _, rfl, rfl, ht, atI_nat (j := 0) rfl, ?_⟩
      walk_at "rd"
      refine ⟨_, _, _, _, rfl, rfl, ht, atI_nat (j := 1) rfl, ?_⟩
      walk_at "rd"
      show spClAt K _ _ _ _
      unfold spClAt
      exact ⟨p, xs, cs, i, rfl, .inr hp, hd, okl, lc, fun v hv => q v _ H (Same.refl H) rfl hv⟩
    | cut i j n =>
      obtain ⟨t, us, rfl, ht, ha⟩ := dp_tup hln
      cases ha with
      | cons a1 ha =>
      cases ha with
      | cons a2 ha =>
      cases ha with
      | cons a3 ha =>
      cases ha with
      | cons a4 ha =>
      cases ha
      cases a1
      cases a2
      cases a3
      cases a4
      refine ⟨_, _, _, _, rfl, rfl, ht, atI_nat (j := 0) rfl, ?_⟩
      walk_at "rd"
      refine ⟨_, _, rfl, ht, rfl, _, _, rfl, _, _, rfl, _, _, rfl, _, _, rfl, rfl, ?_⟩
      walk_at "rd"
      show spClAt K _ _ _ _
      unfold spClAt
      refine ⟨b, ys, bs, i, rfl, .inl hb, hbd, okl.1, lb, fun v1 hv1 => ?_⟩
      walk_at "rd"
      refine ⟨b, ys, bs, j, rfl, .inl hb, hbd, okl.2.1, lb, fun v2 hv2 => ?_⟩
      walk_at "rd"
      cases h1 : clAt bs i with
      | none =>
        rw [h1] at hv1
        have e1 : v1 = .non := hv1
        subst e1
        refine ite2 (fun _ => ?_) (fun h => absurd (show decide (V.non = V.non) = true by simp) h)
        walk_at "rd"
        refine q .non none H (Same.refl H) ?_ rfl
        show (match clAt bs i, clAt bs j with | some c, some d => _ | _, _ => none = none)
        rw [h1]
      | some c =>
        rw [h1] at hv1
        have d1 : Dp K H v1 (clD c) := hv1
        obtain ⟨b1, zs1, rfl, _⟩ := dp_tup d1
        refine ite2 (fun h => absurd h (by simp)) (fun _ => ?_)
        walk_at "rd"
        cases h2 : clAt bs j with
        | none =>
          rw [h2] at hv2
          have e1 : v2 = .non := hv2
          subst e1
          refine ite2 (fun _ => ?_) (fun h => absurd (show decide (V.non = V.non) = true by simp) h)
          walk_at "rd"
          refine q .non none H (Same.refl H) ?_ rfl
          show (match clAt bs i, clAt bs j with | some c, some d => _ | _, _ => none = none)
          rw [h1, h2]
        | some d =>
          rw [h2] at hv2
          have d2 : Dp K H v2 (clD d) := hv2
          obtain ⟨b2, zs2, rfl, _⟩ := dp_tup d2
          refine ite2 (fun h => absurd h (by simp)) (fun _ => ?_)
          walk_at "rd"
          have vcc := vb c (clAt_mem h1)
          have vcd := vb d (clAt_mem h2)
          have on := okl.2.2
          have noD : ¬ ((n, (1 : Int)) ∈ c ∧ (n, (0 : Int)) ∈ d) → Der cs bs (.cut i j n) none := fun h => by
            show (match clAt bs i, clAt bs j with | some c, some d => if (n, (1 : Int)) ∈ c ∧ (n, (0 : Int)) ∈ d then IsRes c d n none else none = none | _, _ => none = none)
            rw [h1, h2]
            show (if (n, (1 : Int)) ∈ c ∧ (n, (0 : Int)) ∈ d then IsRes c d n none else none = none)
            rw [if_neg h]
          refine ⟨sz (by show 2 ≤ 100000; decide), fun T1 nT => ?_⟩
          have s1 := same_new nT (o := .tup [.str n, .int 1])
          have hT := upd_same (H := H) (a := T1) (o := .tup [.str n, .int 1])
          generalize upd H T1 (.tup [.str n, .int 1]) = H1 at s1 hT ⊢
          walk_at "rd"
          refine ⟨litD (n, 1), c.map litD, dp_lit (sqt hT), dp_same s1 d1, sh_lit (l := (n, 1)) on, sh_cl vcc.1, ?_⟩
          rw [any_lit]
          by_cases m1 : (n, (1 : Int)) ∈ c
          · rw [decide_eq_true m1]
            walk_at "rd"
            refine ⟨sz (by show 2 ≤ 100000; decide), fun T2 nT2 => ?_⟩
            have s2 := s1.trans (same_new nT2 (o := .tup [.str n, .int 0]))
            have hT2 := upd_same (H := H1) (a := T2) (o := .tup [.str n, .int 0])
            generalize upd H1 T2 (.tup [.str n, .int 0]) = H2 at s2 hT2 ⊢
            walk_at "rd"
            refine ⟨litD (n, 0), d.map litD, dp_lit (sqt hT2), dp_same s2 d2, sh_lit (l := (n, 0)) on, sh_cl vcd.1, ?_⟩
            rw [any_lit]
            by_cases m2 : (n, (0 : Int)) ∈ d
            · rw [decide_eq_true m2]
              walk_at "rd"
              show spRes K _ _ _ _
              unfold spRes
              refine ⟨b1, b2, c, d, n, rfl, dp_same s2 d1, dp_same s2 d2, vcc.1, vcd.1, on, vcc.2, vcd.2, fun v o H' s' hres hov => ?_⟩
              refine q v o H' (s2.trans s') ?_ hov
              show (match clAt bs i, clAt bs j with | some c, some d => if (n, (1 : Int)) ∈ c ∧ (n, (0 : Int)) ∈ d then IsRes c d n o else o = none | _, _ => o = none)
              rw [h1, h2]
              show (if (n, (1 : Int)) ∈ c ∧ (n, (0 : Int)) ∈ d then IsRes c d n o else o = none)
              rw [if_pos ⟨m1, m2⟩]
              exact hres
            · rw [decide_eq_false m2]
              walk_at "rd"
              exact q .non none H2 s2 (noD fun h => m2 h.2) rfl
          · rw [decide_eq_false m1]
            walk_at "rd"
            exact q .non none H1 s1 (noD fun h => m1 h.1) rfl
/-- the clauses that the lines derive, or none of them -/
inductive Run (cs : List Cl) : List Cl → List Ln → Option (List Cl) → Prop
  | done (bs) : Run cs bs [] (some bs)
  | stop {bs ln lns} : Der cs bs ln none → Run cs bs (ln :: lns) none
  | step {bs ln lns c r} : Der cs bs ln (some c) → Run cs (bs ++ [c]) lns r → Run cs bs (ln :: lns) r
end
end K12
namespace K12
local macro_rules | `(tactic| walk_at "rd") => `(tactic| repeat (first | refine ⟨rfl, ?_⟩ | refine ⟨_, rfl, ?_⟩ | refine ⟨_, _, rfl, rfl, ?_⟩ | refine ⟨⟨_, rfl⟩, ?_⟩))
open PySem PySem.Spec PyProof.Rows L2 Bx TL Dx Zx Ow Sup NdefX Px
/-- a clause over the names ns, in the form that the program keeps -/
def Vc (ns : List Str) (c : Cl) : Prop := Up c ∧ ∀ l ∈ c, l.1 ∈ ns ∧ (l.2 = 0 ∨ l.2 = 1)
theorem vc_ok {ns : List Str} (tx : ∀ z ∈ ns, Tx 17 z) (nl : ns.length ≤ 20) {c : Cl} (v : Vc ns c) : OkC c ∧ c.length ≤ 20 := by
  refine ⟨fun x hx => (tx x.1 (v.2 x hx).1).ok, ?_⟩
  have nd : (c.map (·.1)).Nodup := List.pairwise_map.mpr (v.1.imp fun {a b} (z : a.1.cps.toList < b.1.cps.toList) (e : a.1 = b.1) => List.lt_irrefl b.1.cps.toList (by rw [e] at z; exact z))
  have q := nodup_le (c.map (·.1)) ns nd fun s hs => by
    obtain ⟨l, hl, rfl⟩ := List.mem_map.mp hs
    exact (v.2 l hl).1
  rw [List.length_map] at q
  omega
theorem lits_mem {c d : Cl} {n : Str} {x : Lit} : x ∈ lits c d n ↔ (x ∈ c ∧ x ≠ (n, 1)) ∨ (x ∈ d ∧ x ≠ (n, 0)) := by
  unfold lits
  rw [List.mem_append, List.mem_filter, List.mem_filter, decide_eq_true_iff, decide_eq_true_iff]
theorem res_vc {ns : List Str} {c d e : Cl} {n : Str} (vc : Vc ns c) (vd : Vc ns d) (h : IsRes c d n (some e)) : Vc ns e := ⟨h.2, fun l hl => by
  rcases lits_mem.mp ((h.1 l).mp hl) with z | z
  · exact vc.2 l z.1
  · exact vd.2 l z.1⟩
theorem der_vc {ns : List Str} {cs bs : List Cl} (hc : ∀ c ∈ cs, Vc ns c) (hb : ∀ c ∈ bs, Vc ns c) : ∀ {ln : Ln} {e : Cl}, Der cs bs ln (some e) → Vc ns e
  | .giv i, e, h => hc e (clAt_mem (show clAt cs i = some e from h.symm))
  | .cut i j n, e, h => by
    have h' : (match clAt bs i, clAt bs j with | some c, some d => if (n, (1 : Int)) ∈ c ∧ (n, (0 : Int)) ∈ d then IsRes c d n (some e) else some e = none | _, _ => some e = none) := h
    cases h1 : clAt bs i with
    | none =>
      rw [h1] at h'
      cases h'
    | some c =>
      cases h2 : clAt bs j with
      | none =>
        rw [h1, h2] at h'
        cases h'
      | some d =>
        rw [h1, h2] at h'
        have h3 : if (n, (1 : Int)) ∈ c ∧ (n, (0 : Int)) ∈ d then IsRes c d n (some e) else some e = none := h'
        split at h3
        · exact res_vc (hb c (clAt_mem h1)) (hb d (clAt_mem h2)) h3
        · cases h3
/-- a resolvent is one -/
theorem up_same : ∀ {c d : Cl}, Up c → Up d → (∀ x, x ∈ c ↔ x ∈ d) → c = d
  | [], [], _, _, _ => rfl
  | [], y :: d, _, _, h => absurd ((h y).mpr (List.mem_cons_self ..)) List.not_mem_nil
  | x :: c, [], _, _, h => absurd ((h x).mp (List.mem_cons_self ..)) List.not_mem_nil
  | x :: c, y :: d, uc, ud, h => by
    obtain ⟨c1, c2⟩ := List.pairwise_cons.mp uc
    obtain ⟨d1, d2⟩ := List.pairwise_cons.mp ud
    have e : x = y := by
      rcases List.mem_cons.mp ((h x).mp (List.mem_cons_self ..)) with e | e
      · exact e
      · rcases List.mem_cons.mp ((h y).mpr (List.mem_cons_self ..)) with e2 | e2
        · exact e2.symm
        · exact absurd (List.lt_trans (d1 x e) (c1 y e2)) (List.lt_irrefl _)
    subst e
    have nx : ∀ z ∈ c, z ≠ x := fun z hz e => by
      have q := c1 z hz
      rw [e] at q
      exact List.lt_irrefl _ q
    have ny : ∀ z ∈ d, z ≠ x := fun z hz e => by
      have q := d1 z hz
      rw [e] at q
      exact List.lt_irrefl _ q
    rw [up_same c2 d2 fun z => ⟨fun hz => (List.mem_cons.mp ((h z).mp (List.mem_cons_of_mem _ hz))).resolve_left (nx z hz), fun hz => (List.mem_cons.mp ((h z).mpr (List.mem_cons_of_mem _ hz))).resolve_left (ny z hz)⟩]
theorem up_one : ∀ {c : Cl}, Up c → ∀ x ∈ c, ∀ y ∈ c, x.1 = y.1 → x = y := by
  intro c
  induction c with
  | nil => exact fun _ x hx => nomatch hx
  | cons z c ih =>
    intro up x hx y hy e
    obtain ⟨u1, u2⟩ := List.pairwise_cons.mp up
    rcases List.mem_cons.mp hx with q1 | q1
    · rcases List.mem_cons.mp hy with q2 | q2
      · rw [q1, q2]
      · have z1 := u1 y q2
        rw [← q1, e] at z1
        exact absurd z1 (List.lt_irrefl _)
    · rcases List.mem_cons.mp hy with q2 | q2
      · have z1 := u1 x q1
        rw [← q2, e] at z1
        exact absurd z1 (List.lt_irrefl _)
      · exact ih u2 x q1 y q2 e
theorem res_one {c d : Cl} {n : Str} : ∀ {o o' : Option Cl}, IsRes c d n o → IsRes c d n o' → o = o'
  | none, none, _, _ => rfl
  | some e, some f, h, g => by rw [up_same h.2 g.2 fun x => (h.1 x).trans (g.1 x).symm]
  | none, some f, ⟨x, hx, y, hy, e, ne⟩, g => absurd (up_one g.2 x ((g.1 x).mpr hx) y ((g.1 y).mpr hy) e) ne
  | some f, none, g, ⟨x, hx, y, hy, e, ne⟩ => absurd (up_one g.2 x ((g.1 x).mpr hx) y ((g.1 y).mpr hy) e) ne
theorem der_one {cs bs : List Cl} : ∀ {ln : Ln} {o o' : Option Cl}, Der cs bs ln o → Der cs bs ln o' → o = o'
  | .giv i, o, o', h, g => (show o = clAt cs i from h).trans (show o' = clAt cs i from g).symm
  | .cut i j n, o, o', h, g => by
    have h' : (match clAt bs i, clAt bs j with | some c, some d => if (n, (1 : Int)) ∈ c ∧ (n, (0 : Int)) ∈ d then IsRes c d n o else o = none | _, _ => o = none) := h
    have g' : (match clAt bs i, clAt bs j with | some c, some d => if (n, (1 : Int)) ∈ c ∧ (n, (0 : Int)) ∈ d then IsRes c d n o' else o' = none | _, _ => o' = none) := g
    cases h1 : clAt bs i with
    | none =>
      rw [h1] at h' g'
      exact (show o = none from h').trans (show o' = none from g').symm
    | some c =>
      cases h2 : clAt bs j with
      | none =>
        rw [h1, h2] at h' g'
        exact (show o = none from h').trans (show o' = none from g').symm
      | some d =>
        rw [h1, h2] at h' g'
        have h3 : if (n, (1 : Int)) ∈ c ∧ (n, (0 : Int)) ∈ d then IsRes c d n o else o = none := h'
        have g3 : if (n, (1 : Int)) ∈ c ∧ (n, (0 : Int)) ∈ d then IsRes c d n o' else o' = none := g'
        by_cases m : (n, (1 : Int)) ∈ c ∧ (n, (0 : Int)) ∈ d
        · rw [if_pos m] at h3 g3
          exact res_one h3 g3
        · rw [if_neg m] at h3 g3
          rw [h3, g3]
theorem run_one {cs : List Cl} : ∀ {bs : List Cl} {lns : List Ln} {r r' : Option (List Cl)}, Run cs bs lns r → Run cs bs lns r' → r = r' := by
  intro bs lns r r' h
  induction h generalizing r' with
  | done bs =>
    intro g
    cases g
    rfl
  | stop d =>
    intro g
    cases g with
    | stop _ => rfl
    | step d2 _ => exact absurd (der_one d d2) (by simp)
  | step d _ ih =>
    intro g
    cases g with
    | stop d2 => exact absurd (der_one d d2) (by simp)
    | step d2 g2 =>
      have e := Option.some.inj (der_one d d2)
      subst e
      exact ih g2
section
variable {P : Program} {w : World} {K : PySem.W.Frag} {mg : Str → Option Value} {base : Heap}
def RD (K : PySem.W.Frag) (H : Hp) (v : V) : Option (List Cl) → Prop
  | none => v = .non
  | some ds => Dp K H v (.tuple (ds.map clD))
@[irreducible] def spRun (K : PySem.W.Frag) : Sp := fun vs H Q _ => ∃ (p q : Addr) (xs zs : List V) (ns : List Str) (cs : List Cl) (lns : List Ln), vs = [.ref p, .ref q] ∧ SqT K H p xs ∧ DpAll K H xs (cs.map clD) ∧ SqT K H q zs ∧ DpAll K H zs (lns.map lnD) ∧ (∀ x ∈ lns, OkLn x) ∧ (∀ c ∈ cs, Vc ns c) ∧ (∀ z ∈ ns, Tx 17 z) ∧ ns.length ≤ 20 ∧ cs.length ≤ 1000 ∧ lns.length ≤ 1000 ∧
  ∀ (v : V) (r : Option (List Cl)) (H' : Hp), Same H H' → Run cs [] lns r → RD K H' v r → Q v H'
theorem ok_run {f : Addr} {fd : FuncData} (F : Fun K "derive_lines" "derive_lines" s_derive_lines f fd) (m_tuple : mg "tuple" = none) (C__derived : Cal P w K mg base "_derived" 2 ["clauses", "before", "line"] (spDer K)) : FnOk P w K mg base CX0 3 f fd ["clauses", "certificate"] (spRun K) := by
  refine F.ok sc_derive_lines (fun vs H Q E h => ?_) (fun cdv A outer s H vs Q E hr h => ?_)
  · unfold spRun at h
    obtain ⟨p, q, xs, zs, ns, cs, lns, rfl, _⟩ := h
    rfl
  · unfold spRun at h
    obtain ⟨p, q, xs, zs, ns, cs, lns, rfl, hp, hd, hq, hz, okl, vc, tx, nl, lc, ll, fin⟩ := h
    refine ⟨_, (pss_cons (ps_set (i := 2) sc_derive_lines.nd rfl (Or.inl rfl) (pe_lst pa_nil))
    (pss_cons (ps_for PassesOwn.never rfl (pi_tup (pv 1)) (pg_name (i := 3) sc_derive_lines.nd rfl (Or.inl rfl))
      (pss_cons (ps_set (i := 4) sc_derive_lines.nd rfl (Or.inl rfl) (pe_cal C__derived (hr.mono (by decide)) (pa_cons (pv 0) (pa_cons (pv 2) (pa_cons (pv 3) pa_nil)))))
    (pss_cons (ps_if (pt_cmpR op_isN (pv 4) pe_non (nomark _))
      (pss_one (ps_ret pe_non))
      pss_nil)
    (pss_one (ps_expr (pe_bm PySem.F.plainAttrs_list PySem.F.slot_list_append PySem.F.type_list_append mt_append (pv 2) (pa_cons (pv 4) pa_nil)))))))
    (pss_one (ps_ret (pe_callTy (T := "tuple") call_tuple_of (by rfl) m_tuple (by decide +kernel) (pa_cons (pv 2) pa_nil)))))), ?_⟩
    walk_at "rd"
    refine ⟨sz (by decide), fun D nD => ?_⟩
    have s0 := same_new nD (o := .lst ([] : List V))
    have zl : zs.length = lns.length := by rw [da_len hz, List.length_map]
    walk_at "rd"
    refine ⟨⟨_, Bx.Same.tup s0 hq⟩, for_it (walk_tup (K := K) (a := q) (xs := zs)) (fun i σ H' => ∃ (o3 o4 : Option V) (ys : List V) (bs : List Cl), σ = [some (.ref p), some (.ref q), some (.ref D), o3, o4] ∧ Same H H' ∧ H' D = some (.lst ys) ∧ DpAll K H' ys (bs.map clD) ∧ bs.length = i ∧ (∀ c ∈ bs, Vc ns c) ∧ ∀ r, Run cs bs (lns.drop i) r → Run cs [] lns r)
      ⟨none, none, [], [], rfl, s0, upd_same, .nil, rfl, (fun c hc => by cases hc), fun r h => h⟩ (fun i σ H' _ ⟨_, _, _, _, _, s, _⟩ => Bx.Same.tup s hq) ?_ ?_⟩
    · rintro i x σ H1 H2 hi ⟨o3, o4, ys, bs, rfl, s1, hD, hbd, bl, vb, back⟩ ⟨rfl, hx⟩
      obtain ⟨ln, hln, dl⟩ := da_atM hz hx
      have dr : lns.drop i = ln :: lns.drop (i + 1) := by
        obtain ⟨h, e⟩ := List.getElem?_eq_some_iff.mp hln
        rw [List.drop_eq_getElem_cons h, e]
      walk_at "rd"
      show spDer K _ _ _ _
      unfold spDer
      refine ⟨p, D, x, xs, ys, cs, bs, ln, rfl, Bx.Same.tup s1 hp, dpAll_same s1 hd, sq hD, hbd, dp_same s1 dl, okl ln (List.mem_of_getElem? hln), fun c hc => vc_ok tx nl (vc c hc), fun c hc => vc_ok tx nl (vb c hc), lc, by omega, fun v o H3 s3 hder hov => ?_⟩
      have s13 := s1.trans s3
      walk_at "rd"
      cases o with
      | none =>
        have e : v = .non := hov
        subst e
        refine ite2 (fun _ => ?_) (fun h => absurd (show decide (V.non = V.non) = true by simp) h)
        walk_at "rd"
        exact fin .non none H3 s13 (back none (by rw [dr]; exact .stop hder)) rfl
      | some c =>
        have dc : Dp K H3 v (clD c) := hov
        obtain ⟨b, zs1, rfl, _⟩ := dp_tup dc
        refine ite2 (fun h => absurd h (by simp)) (fun _ => ?_)
        walk_at "rd"
        have hD3 := s3 _ _ hD
        refine ⟨.inl ⟨rfl, _, sq hD3⟩, ?_⟩
        walk_at "rd"
        have yl : ys.length = bs.length := by rw [da_len hbd, List.length_map]
        refine ⟨D, _, _, rfl, rfl, hD3, szl (by omega), ?_⟩
        have tk := tk_lst (K := K) (o := .lst (ys ++ [.ref b])) hD3
        refine ⟨_, _, ys ++ [.ref b], bs ++ [c], rfl, same_at nD s13, upd_same, ?_, by rw [List.length_append, bl]; rfl, fun x hx => ?_, fun r h => back r (by rw [dr]; exact .step hder h)⟩
        · rw [List.map_append]
          exact da_app (da_tk tk _ _ (tup_cls _) (dpAll_same s3 hbd)) (da_one (dp_tk tk _ _ (tup_lits c) dc))
        · rcases List.mem_append.mp hx with h | h
          · exact vb x h
          · rw [List.mem_singleton.mp h]
            exact der_vc vc vb hder
    · rintro σ H1 ⟨o3, o4, ys, bs, rfl, s1, hD, hbd, bl, vb, back⟩
      rw [zl, List.drop_length] at back
      walk_at "rd"
      refine ⟨D, _, rfl, .inl ⟨sq hD, fun t nt => ?_⟩⟩
      have st := same_new nt (o := .tup ys)
      exact fin (.ref t) (some bs) _ (s1.trans st) (back _ (.done bs)) (.tup (sqt upd_same) (dpAll_same st hbd))
end
end K12
namespace K12
local macro_rules | `(tactic| walk_at "rd") => `(tactic| repeat (first | refine ⟨rfl, ?_⟩ | refine ⟨_, rfl, ?_⟩ | refine ⟨_, _, rfl, rfl, ?_⟩ | refine ⟨⟨_, rfl⟩, ?_⟩))
open PySem PySem.Spec PyProof.Rows L2 Bx TL Dx Zx Ow Sup NdefX Px
theorem st_co {t : TS} {D : Ends} {rest : TS} {σ : List (Option V)} {H : Hp} (R : Hp → Prop) (h : ∀ D' : Ends, (∀ H', R H' → D'.nx σ H') → t D' σ H) (k : ∀ H', R H' → rest D σ H') : tSeq t rest D σ H :=
  h { D with nx := rest D } k
theorem sub_snoc {ms ns : List Str} {i : Nat} {n : Str} (h : ms.Sublist (ns.take i)) (hn : ns[i]? = some n) : (ms ++ [n]).Sublist (ns.take (i + 1)) := by
  rw [List.take_add_one, hn]
  exact h.append (List.Sublist.refl _)
theorem sub_skip {ms ns : List Str} {i : Nat} (h : ms.Sublist (ns.take i)) : ms.Sublist (ns.take (i + 1)) := by
  rw [List.take_add_one]
  exact h.trans (List.sublist_append_left _ _)
section
variable {P : Program} {w : World} {K : PySem.W.Frag} {mg : Str → Option Value} {base : Heap}
theorem sqt_but {H H' : Hp} {s a : Addr} {xs : List V} (hs : Src H s) (sb : SameBut s H H') (h : SqT K H a xs) : SqT K H' a xs := by
  obtain ⟨n, c, hs⟩ := hs
  rcases h with (h | ⟨u, h⟩) | h
  · exact .inl (.inl (sb _ _ (fun z => by rw [z, hs] at h; cases h) h))
  · exact .inl (.inr ⟨u, sb _ _ (fun z => by rw [z, hs] at h; cases h) h⟩)
  · exact .inr h
theorem tk_but {H H' : Hp} {s : Addr} (hs : Src H s) (sb : SameBut s H H') : Tk K H H' := fun _ _ h => sqt_but hs sb h
end
end K12
namespace K12
open PySem PySem.Spec PyProof.Rows L2 Bx TL Dx Zx Ow Sup NdefX Px
/-! ### values decided so far -/
def lk (l : As) (z : Str) : Option Int := (l.find? fun p => decide (p.1 = z)).map (·.2)
theorem lk_app (l e : As) (z : Str) : lk (l ++ e) z = (lk l z).or (lk e z) := by
  unfold lk
  rw [List.find?_append]
  cases l.find? fun p => decide (p.1 = z) <;> rfl
theorem lk_none {l : As} {z : Str} (h : z ∉ l.map (·.1)) : lk l z = none := by
  unfold lk
  rw [List.find?_eq_none.mpr fun p hp => by rw [decide_eq_true_iff]; exact fun e => h (List.mem_map.mpr ⟨p, hp, e⟩)]
  rfl
theorem lk_mem : ∀ {l : As} {z : Str} {k : Int}, lk l z = some k → (z, k) ∈ l
  | [], _, _, h => by cases h
  | p :: l, z, k, h => by
    unfold lk at h
    rw [List.find?_cons] at h
    by_cases e : p.1 = z
    · rw [decide_eq_true e] at h
      have h2 : p.2 = k := Option.some.inj h
      rw [← e, ← h2]
      exact List.mem_cons_self ..
    · rw [decide_eq_false e] at h
      exact List.mem_cons_of_mem _ (lk_mem h)
theorem lk_in : ∀ {l : As} {z : Str} {k : Int}, (l.map (·.1)).Nodup → (z, k) ∈ l → lk l z = some k
  | [], _, _, _, h => by cases h
  | p :: l, z, k, nd, h => by
    obtain ⟨n1, n2⟩ := List.nodup_cons.mp nd
    unfold lk
    rw [List.find?_cons]
    by_cases e : p.1 = z
    · rw [decide_eq_true e]
      rcases List.mem_cons.mp h with h | h
      · rw [← h]
        rfl
      · exact absurd (List.mem_map.mpr ⟨(z, k), h, e.symm⟩) n1
    · rw [decide_eq_false e]
      rcases List.mem_cons.mp h with h | h
      · exact absurd (by rw [← h]) e
      · exact lk_in n2 h
/-- every literal fails -/
def fl (l : As) (c : Cl) : Bool := c.all fun x => decide (lk l x.1 = some (1 - x.2))
theorem fl_iff {l : As} {c : Cl} : fl l c = true ↔ ∀ x ∈ c, lk l x.1 = some (1 - x.2) := by
  unfold fl
  rw [List.all_eq_true]
  exact ⟨fun h x hx => of_decide_eq_true (h x hx), fun h x hx => decide_eq_true (h x hx)⟩
theorem fl_app {l : As} (e : As) {c : Cl} (h : fl l c = true) : fl (l ++ e) c = true := by
  rw [fl_iff] at h ⊢
  intro x hx
  rw [lk_app, h x hx]
  rfl
/-- a clause that fails without the value of n already -/
theorem fl_less {l : As} {n : Str} {v : Int} {c : Cl} (h : fl (l ++ [(n, v)]) c = true) (hn : n ∉ l.map (·.1)) (no : (n, 1 - v) ∉ c) : fl l c = true := by
  rw [fl_iff] at h ⊢
  intro x hx
  have z := h x hx
  rw [lk_app] at z
  by_cases e : n = x.1
  · rw [← e, lk_none hn] at z
    have z2 : lk [(n, v)] n = some v := by
      unfold lk
      rw [List.find?_cons, decide_eq_true rfl]
      rfl
    have z3 : some v = some (1 - x.2) := by
      rw [← z2]
      exact z
    have z4 := Option.some.inj z3
    refine absurd (show (n, 1 - v) ∈ c from ?_) no
    have e2 : (n, 1 - v) = x := Prod.ext e (by show 1 - v = x.2; omega)
    rw [e2]
    exact hx
  · have z2 : lk [(n, v)] x.1 = none := lk_none (by
      intro m
      exact e (List.mem_singleton.mp m).symm)
    rw [z2] at z
    cases hl : lk l x.1 with
    | none =>
      rw [hl] at z
      cases z
    | some k =>
      rw [hl] at z
      exact z
abbrev Bits01 (vs : List Int) : Prop := ∀ v ∈ vs, v = 0 ∨ v = 1
/-- what the search for a solution gives -/
def SolR (cs : List Cl) (l : As) (ms : List Str) : Option As → Prop
  | none => ∀ vs : List Int, vs.length = ms.length → Bits01 vs → ∃ c ∈ cs, fl (l ++ ms.zip vs) c = true
  | some r => ∃ vs : List Int, vs.length = ms.length ∧ Bits01 vs ∧ r = l ++ ms.zip vs ∧ ∀ c ∈ cs, fl r c = false
theorem sol_fail {cs : List Cl} {l : As} {ms : List Str} {c : Cl} (hc : c ∈ cs) (h : fl l c = true) : SolR cs l ms none := fun _ _ _ => ⟨c, hc, fl_app _ h⟩
theorem sol_done {cs : List Cl} {l : As} (h : ∀ c ∈ cs, fl l c = false) : SolR cs l [] (some l) := ⟨[], rfl, fun v hv => (by cases hv), by simp, h⟩
theorem zip_cons (l : As) (n : Str) (ms : List Str) (v : Int) (vs : List Int) : l ++ (n :: ms).zip (v :: vs) = (l ++ [(n, v)]) ++ ms.zip vs := by simp
theorem sol_some {cs : List Cl} {l : As} {n : Str} {ms : List Str} {v : Int} {r : As} (hv : v = 0 ∨ v = 1) : SolR cs (l ++ [(n, v)]) ms (some r) → SolR cs l (n :: ms) (some r)
  | ⟨vs, h1, h2, h3, h4⟩ => ⟨v :: vs, by simp [h1], fun x hx => (List.mem_cons.mp hx).elim (fun e => e ▸ hv) (h2 x), by rw [zip_cons, h3], h4⟩
theorem sol_none {cs : List Cl} {l : As} {n : Str} {ms : List Str} (h0 : SolR cs (l ++ [(n, 0)]) ms none) (h1 : SolR cs (l ++ [(n, 1)]) ms none) : SolR cs l (n :: ms) none := by
  intro vs hl hb
  match vs, hl, hb with
  | v :: vs, hl, hb =>
    have hl2 : vs.length = ms.length := by simpa using hl
    have hb2 : Bits01 vs := fun x hx => hb x (List.mem_cons_of_mem _ hx)
    rw [zip_cons]
    rcases hb v (List.mem_cons_self ..) with e | e
    · rw [e]
      exact h0 vs hl2 hb2
    · rw [e]
      exact h1 vs hl2 hb2
theorem sol_step {cs : List Cl} {l : As} {n : Str} {ms : List Str} (h : SolR cs l (n :: ms) none) {v : Int} (hv : v = 0 ∨ v = 1) : SolR cs (l ++ [(n, v)]) ms none := by
  intro vs hl hb
  have z := h (v :: vs) (by simp [hl]) fun x hx => (List.mem_cons.mp hx).elim (fun e => e ▸ hv) (hb x)
  rw [zip_cons] at z
  exact z
theorem sol_nil {cs : List Cl} {l : As} (h : SolR cs l [] none) : ∃ c ∈ cs, fl l c = true := by
  obtain ⟨c, hc, h⟩ := h [] rfl fun v hv => (by cases hv)
  exact ⟨c, hc, by simpa using h⟩
/-! ### lines as keys of a dict -/
def lnK : Ln → List Key
  | .giv i => [.inr (Str.ofString "given"), .inl i]
  | .cut i j n => [.inr (Str.ofString "cut"), .inl i, .inl j, .inr n]
theorem lnK_inj : ∀ {x y : Ln}, lnK x = lnK y → x = y
  | .giv i, .giv j, h => by
    simp only [lnK, List.cons.injEq, Sum.inl.injEq] at h
    rw [h.2.1]
  | .giv i, .cut _ _ _, h => by simp [lnK] at h
  | .cut _ _ _, .giv _, h => by simp [lnK] at h
  | .cut i j n, .cut i' j' n', h => by
    simp only [lnK, List.cons.injEq, Sum.inl.injEq, Sum.inr.injEq] at h
    rw [h.2.1, h.2.2.1, h.2.2.2.1]
def dcV (lns : List Ln) (k : Nat) : List (List Key × V) := (lns.zipIdx k).map fun p => (lnK p.1, .int (p.2 : Nat))
theorem dcV_app (lns : List Ln) (x : Ln) : ∀ k, dcV (lns ++ [x]) k = dcV lns k ++ [(lnK x, .int ((k + lns.length : Nat) : Int))] := by
  intro k
  unfold dcV
  rw [List.zipIdx_append, List.map_append]
  rfl
theorem dcV_len (lns : List Ln) (k : Nat) : (dcV lns k).length = lns.length := by
  unfold dcV
  rw [List.length_map, List.length_zipIdx]
theorem dcV_at : ∀ {lns : List Ln} {k : Nat} {x : Ln} {u : V}, valV (dcV lns k) (lnK x) = some u → ∃ i, lns[i]? = some x ∧ u = .int ((k + i : Nat) : Int)
  | [], _, _, _, h => by cases h
  | y :: lns, k, x, u, h => by
    have h2 : valV ((lnK y, V.int (k : Nat)) :: dcV lns (k + 1)) (lnK x) = some u := h
    by_cases e : y = x
    · rw [valV_pos (by rw [e])] at h2
      refine ⟨0, by rw [e]; rfl, ?_⟩
      exact (Option.some.inj h2).symm
    · rw [valV_neg (fun z => e (lnK_inj z))] at h2
      obtain ⟨i, h3, h4⟩ := dcV_at h2
      exact ⟨i + 1, h3, by rw [h4]; congr 2; omega⟩
theorem dcV_no : ∀ {lns : List Ln} {k : Nat} {x : Ln}, valV (dcV lns k) (lnK x) = none → x ∉ lns
  | [], _, _, _ => List.not_mem_nil
  | y :: lns, k, x, h => by
    have h2 : valV ((lnK y, V.int (k : Nat)) :: dcV lns (k + 1)) (lnK x) = none := h
    by_cases e : y = x
    · rw [valV_pos (by rw [e])] at h2
      cases h2
    · rw [valV_neg (fun z => e (lnK_inj z))] at h2
      intro m
      rcases List.mem_cons.mp m with m | m
      · exact e m.symm
      · exact dcV_no h2 m
theorem dcV_put {lns : List Ln} {x : Ln} (h : valV (dcV lns 0) (lnK x) = none) : putK (dcV lns 0) (lnK x) (.int ((lns.length : Nat) : Int)) = dcV (lns ++ [x]) 0 := by
  unfold putK
  have no := dcV_no h
  rw [if_neg, dcV_app, Nat.zero_add]
  rw [Bool.not_eq_true, List.any_eq_false]
  intro kv hk
  unfold dcV at hk
  obtain ⟨p, hp, rfl⟩ := List.mem_map.mp hk
  simp only [decide_eq_true_eq]
  intro e
  have m := lnK_inj e
  refine no ?_
  rw [← m]
  obtain ⟨i, hi, e2⟩ := List.getElem_of_mem hp
  rw [List.getElem_zipIdx] at e2
  rw [← e2]
  exact List.getElem_mem _
/-! ### right lines -/
/-- each line stands for its clause -/
def Dv (cs : List Cl) (lns : List Ln) (bs : List Cl) : Prop := lns.length = bs.length ∧ ∀ i x, lns[i]? = some x → ∃ c, bs[i]? = some c ∧ Der cs (bs.take i) x (some c)
theorem clAt_app {bs : List Cl} (e : List Cl) {i : Int} {c : Cl} (h : clAt bs i = some c) : clAt (bs ++ e) i = some c := by
  unfold clAt at h ⊢
  split at h
  · rename_i h0
    rw [if_pos h0]
    obtain ⟨z, _⟩ := List.getElem?_eq_some_iff.mp h
    rw [List.getElem?_append_left z]
    exact h
  · cases h
theorem der_app {cs bs : List Cl} (e : List Cl) : ∀ {x : Ln} {c : Cl}, Der cs bs x (some c) → Der cs (bs ++ e) x (some c)
  | .giv i, c, h => h
  | .cut i j n, c, h => by
    have h' : (match clAt bs i, clAt bs j with | some c1, some d => if (n, (1 : Int)) ∈ c1 ∧ (n, (0 : Int)) ∈ d then IsRes c1 d n (some c) else some c = none | _, _ => some c = none) := h
    cases h1 : clAt bs i with
    | none =>
      rw [h1] at h'
      cases h'
    | some c1 =>
      cases h2 : clAt bs j with
      | none =>
        rw [h1, h2] at h'
        cases h'
      | some d =>
        rw [h1, h2] at h'
        show (match clAt (bs ++ e) i, clAt (bs ++ e) j with | some c1, some d => if (n, (1 : Int)) ∈ c1 ∧ (n, (0 : Int)) ∈ d then IsRes c1 d n (some c) else some c = none | _, _ => some c = none)
        rw [clAt_app e h1, clAt_app e h2]
        exact h'
theorem dv_nil (cs : List Cl) : Dv cs [] [] := ⟨rfl, fun i x h => by cases h⟩
theorem dv_app {cs : List Cl} {lns : List Ln} {bs : List Cl} {x : Ln} {c : Cl} (h : Dv cs lns bs) (d : Der cs bs x (some c)) : Dv cs (lns ++ [x]) (bs ++ [c]) := by
  refine ⟨by rw [List.length_append, List.length_append, h.1]; rfl, fun i y hy => ?_⟩
  by_cases hi : i < lns.length
  · rw [List.getElem?_append_left hi] at hy
    obtain ⟨e, h1, h2⟩ := h.2 i y hy
    have hb : i < bs.length := by rw [← h.1]; exact hi
    refine ⟨e, by rw [List.getElem?_append_left hb]; exact h1, ?_⟩
    rw [List.take_append_of_le_length (Nat.le_of_lt hb)]
    exact h2
  · obtain ⟨z, _⟩ := List.getElem?_eq_some_iff.mp hy
    rw [List.length_append] at z
    have z2 : i = lns.length := by
      have : i < lns.length + 1 := z
      omega
    subst z2
    rw [List.getElem?_append_right (Nat.le_refl _), Nat.sub_self] at hy
    have e : x = y := Option.some.inj hy
    subst e
    refine ⟨c, by rw [h.1, List.getElem?_append_right (Nat.le_refl _), Nat.sub_self]; rfl, ?_⟩
    rw [h.1, List.take_append_of_le_length (Nat.le_refl _), List.take_length]
    exact d
theorem dv_der {cs : List Cl} {lns : List Ln} {bs : List Cl} (h : Dv cs lns bs) {i : Nat} {x : Ln} (hx : lns[i]? = some x) : ∃ c, bs[i]? = some c ∧ Der cs bs x (some c) := by
  obtain ⟨c, h1, h2⟩ := h.2 i x hx
  refine ⟨c, h1, ?_⟩
  have z := der_app (bs.drop i) h2
  rw [List.take_append_drop] at z
  exact z
theorem dv_vc {ns : List Str} {cs : List Cl} (vc : ∀ c ∈ cs, Vc ns c) : ∀ {lns : List Ln} {bs : List Cl}, Dv cs lns bs → ∀ (i : Nat) (c : Cl), bs[i]? = some c → Vc ns c := by
  intro lns bs h i
  induction i using Nat.strongRecOn with
  | _ i ih =>
    intro c hc
    obtain ⟨hi, _⟩ := List.getElem?_eq_some_iff.mp hc
    have hl : i < lns.length := by rw [h.1]; exact hi
    obtain ⟨e, h1, h2⟩ := h.2 i _ (List.getElem?_eq_getElem hl)
    rw [hc] at h1
    cases h1
    refine der_vc vc (fun d hd => ?_) h2
    obtain ⟨k, hk, e⟩ := List.getElem_of_mem hd
    rw [List.length_take] at hk
    rw [List.getElem_take] at e
    exact ih k (by omega) d (by rw [← e]; exact List.getElem?_eq_getElem _)
theorem dv_run {cs : List Cl} {lns : List Ln} {bs : List Cl} (h : Dv cs lns bs) : ∀ k, k ≤ lns.length → Run cs (bs.take (lns.length - k)) (lns.drop (lns.length - k)) (some bs) := by
  intro k
  induction k with
  | zero =>
    intro _
    rw [Nat.sub_zero, h.1, List.take_length, ← h.1, List.drop_length]
    exact .done bs
  | succ k ih =>
    intro hk
    have hi : lns.length - (k + 1) < lns.length := by omega
    obtain ⟨c, h1, h2⟩ := h.2 _ _ (List.getElem?_eq_getElem hi)
    rw [List.drop_eq_getElem_cons hi]
    have z := ih (by omega)
    have e : lns.length - (k + 1) + 1 = lns.length - k := by omega
    rw [e]
    refine .step h2 ?_
    have e2 : bs.take (lns.length - (k + 1)) ++ [c] = bs.take (lns.length - k) := by
      rw [← e, List.take_add_one, h1]
      rfl
    rw [e2]
    exact z
theorem dv_take {cs : List Cl} {lns : List Ln} {bs : List Cl} (h : Dv cs lns bs) (k : Nat) : Dv cs (lns.take k) (bs.take k) := by
  refine ⟨by rw [List.length_take, List.length_take, h.1], fun i x hx => ?_⟩
  obtain ⟨hi, _⟩ := List.getElem?_eq_some_iff.mp hx
  rw [List.length_take] at hi
  rw [List.getElem?_take_of_lt (by omega)] at hx
  obtain ⟨c, h1, h2⟩ := h.2 i x hx
  refine ⟨c, by rw [List.getElem?_take_of_lt (by omega)]; exact h1, ?_⟩
  rw [List.take_take, Nat.min_eq_left (by omega)]
  exact h2
end K12
namespace K12
local macro_rules | `(tactic| walk_at "rd") => `(tactic| repeat (first | refine ⟨rfl, ?_⟩ | refine ⟨_, rfl, ?_⟩ | refine ⟨_, _, rfl, rfl, ?_⟩ | refine ⟨⟨_, rfl⟩, ?_⟩))
open PySem PySem.Spec PyProof.Rows L2 Bx TL Dx Zx Ow Sup NdefX Px
theorem put_as {l : As} {z : Str} {v : Int} (h : z ∉ l.map (·.1)) : putK (asV l) (.inr z) (.int v) = asV (l ++ [(z, v)]) := by
  unfold putK
  rw [if_neg]
  · show asV l ++ [(.inr z, .int v)] = _
    unfold asV
    rw [List.map_append]
    rfl
  rw [Bool.not_eq_true, List.any_eq_false]
  intro kv hk
  unfold asV at hk
  obtain ⟨p, hp, rfl⟩ := List.mem_map.mp hk
  simp only [decide_eq_true_eq]
  intro e
  exact h (List.mem_map.mpr ⟨p, hp, Sum.inr.inj e⟩)
theorem star_heap {H : Hp} {p p2 : Addr} {kvs : List (Key × V)} {k : Key} {z : V} {r : List (Key × V)} (np : H p = none) (np2 : (upd (upd H p (.dK [])) p (.dK kvs)) p2 = none) :
    Same H (upd (upd (upd (upd (upd H p (.dK [])) p (.dK kvs)) p2 (.dK [])) p2 (.dK [(k, z)])) p (.dK r)) ∧ (upd (upd (upd (upd (upd H p (.dK [])) p (.dK kvs)) p2 (.dK [])) p2 (.dK [(k, z)])) p (.dK r)) p = some (.dK r) := by
  refine ⟨fun b o hb => ?_, upd_same⟩
  have n12 : p2 ≠ p := fun e => by rw [e, upd_same] at np2; cases np2
  have np2' : H p2 = none := by rw [upd_upd, upd_ne n12] at np2; exact np2
  rw [upd_ne (ne_of_none hb np), upd_ne (ne_of_none hb np2'), upd_ne (ne_of_none hb np2'), upd_upd, upd_ne (ne_of_none hb np)]
  exact hb
theorem val_lk (l : As) (z : Str) : valV (asV l) (.inr z) = (lk l z).map V.int := val_as l z
theorem get_lk (l : As) (z : Str) (k : Int) : decide (((lk l z).map V.int).getD V.non = V.int k) = decide (lk l z = some k) := by
  cases lk l z with
  | none => rfl
  | some v =>
    show decide (V.int v = V.int k) = decide (some v = some k)
    exact decide_eq_decide.mpr ⟨fun e => congrArg some (V.int.inj e), fun e => congrArg V.int (Option.some.inj e)⟩
section
variable {P : Program} {w : World} {K : PySem.W.Frag} {mg : Str → Option Value} {base : Heap}
/-- a theory of clauses -/
structure Th (K : PySem.W.Frag) (H : Hp) (T na ca : Addr) (xs : List V) (ns : List Str) (cs : List Cl) : Prop where
  t : SqT K H T [.ref na, .ref ca]
  n : SqT K H na (ns.map V.str)
  c : SqT K H ca xs
  d : DpAll K H xs (cs.map clD)
theorem Th.same {H H' : Hp} {T na ca : Addr} {xs : List V} {ns : List Str} {cs : List Cl} (h : Th K H T na ca xs ns cs) (s : Same H H') : Th K H' T na ca xs ns cs := ⟨Bx.Same.tup s h.t, Bx.Same.tup s h.n, Bx.Same.tup s h.c, dpAll_same s h.d⟩
/-- the names that a clause does not mention -/
def und (ns : List Str) (c : Cl) : List Str := ns.filter fun z => !decide (z ∈ c.map (·.1))
@[irreducible] def spUnd (K : PySem.W.Frag) : Sp := fun vs H Q _ => ∃ (T na ca p : Addr) (xs : List V) (ns : List Str) (cs : List Cl) (c : Cl), vs = [.ref T, .ref p] ∧ Th K H T na ca xs ns cs ∧ Dp K H (.ref p) (clD c) ∧ ns.length ≤ 1000 ∧ c.length ≤ 1000 ∧ ∀ r H', Same H H' → SqT K H' r ((und ns c).map V.str) → Q (.ref r) H'
theorem ok_undecided {f : Addr} {fd : FuncData} (F : Fun K "_undecided" "_undecided" s__undecided f fd) (m_tuple : mg "tuple" = none) : FnOk P w K mg base CX0 1 f fd ["theory", "constraint"] (spUnd K) := by
  refine F.ok sc__undecided (fun vs H Q E h => ?_) (fun cdv A outer s H vs Q E hr h => ?_)
  · unfold spUnd at h
    obtain ⟨T, na, ca, p, xs, ns, cs, c, rfl, _⟩ := h
    rfl
  · unfold spUnd at h
    obtain ⟨T, na, ca, p, xs, ns, cs, c, rfl, th, hc, nl, lc, q⟩ := h
    refine ⟨_, (pss_cons (ps_set (i := 2) sc__undecided.nd rfl (Or.inr rfl) (pe_lc (own := [("name", 3), ("_", 4)]) (tt := tYes) rfl sc__undecided.nd (pi_tup (pv 1)) (blkOk_by (N := n__undecided) (sc := defScope s__undecided) (by decide +kernel)) (fun _ _ _ _ _ => pg_tupK (K := K) (n := 2) rfl rfl (pgs_cons (pg_name (i := 3) sc__undecided.nd rfl (Or.inl rfl)) (pgs_cons (pg_name (i := 4) sc__undecided.nd rfl (Or.inl rfl)) pgs_nil))) (fun _ _ _ _ _ => pts_nil) (fun _ _ _ _ _ => (pv 3))))
    (pss_one (ps_ret (pe_callTy (T := "tuple") call_tuple_of (by rfl) m_tuple (by decide +kernel) (pa_cons (pe_lc (own := [("name", 3)]) rfl sc__undecided.nd (pi_tup (pe_ix ix_tup (pv 0) pe_int (fun _ _ => rfl))) (blkOk_by (N := n__undecided) (sc := defScope s__undecided) (by decide +kernel)) (fun _ _ _ _ _ => pg_name (i := 3) sc__undecided.nd rfl (Or.inl rfl)) (fun _ _ _ _ _ => pts_one (pt_cmpR (op_notIn_seqK (K := K) rfl) (pv 3) (pv 2) (by rfl))) (fun _ _ _ _ _ => (pv 3))) pa_nil))))), ?_⟩
    walk_at "rd"
    obtain ⟨p', ys, ep, ht, ha⟩ := dp_tup hc
    cases ep
    have yl : ys.length = c.length := by rw [da_len ha, List.length_map]
    refine ⟨⟨_, ht⟩, fun D hD => ?_⟩
    refine lc_it walk_tup (fun i H' => H' = upd H D (.lst (((c.take i).map (·.1)).map V.str))) rfl (fun i H' _ e => e ▸ Bx.Same.tup (same_new hD) ht) ?_ ?_
    · rintro i v H2 H3 hi rfl ⟨rfl, hx⟩
      obtain ⟨l, hl, dl⟩ := da_atM ha hx
      obtain ⟨b, rfl, hb⟩ := lit_dp (dp_same (same_new hD (o := .lst (((c.take i).map (·.1)).map V.str))) dl)
      refine ⟨b, _, rfl, hb, rfl, _, _, rfl, _, _, rfl, rfl, rfl, ?_⟩
      walk_at "rd"
      refine ⟨_, upd_same, ?_, ?_⟩
      · rw [List.length_map, List.length_map]
        exact szl (Nat.lt_of_le_of_lt (List.length_take_le' i c) (by omega))
      · rw [upd_upd, List.take_add_one, hl, List.map_append, List.map_append]
        rfl
    rintro H4 rfl
    rw [yl, List.take_length]
    have sM := same_new hD (o := .lst ((c.map (·.1)).map V.str))
    have hM := upd_same (H := H) (a := D) (o := .lst ((c.map (·.1)).map V.str))
    generalize upd H D (.lst ((c.map (·.1)).map V.str)) = H4 at sM hM ⊢
    have th4 := th.same sM
    walk_at "rd"
    refine ⟨_, _, _, _, rfl, rfl, th4.t, atI_nat (j := 0) rfl, ?_⟩
    refine ⟨na, rfl, ⟨_, th4.n⟩, fun D2 hD2 => ?_⟩
    refine lc_it walk_tup (fun i H' => Same H4 H' ∧ H' D2 = some (.lst (((ns.take i).filter fun z => !decide (z ∈ c.map (·.1))).map V.str))) ⟨same_new hD2, upd_same⟩ (fun i H' _ h => Bx.Same.tup h.1 th4.n) ?_ ?_
    · rintro i v H5a H5 hi ⟨s5, hM5⟩ ⟨rfl, hx⟩
      obtain ⟨n, hn, rfl⟩ := at_map hx
      refine ⟨rfl, ?_⟩
      walk_at "rd"
      refine ⟨D, _, rfl, .inl (sq (s5 _ _ hM)), rfl, Bx.flat_all _, ?_⟩
      rw [Bx.inV_str]
      refine ⟨_, rfl, ite2 (fun h6 => ?_) (fun h6 => ?_)⟩
      · have h7 : (!decide (n ∈ c.map (·.1))) = true := h6
        walk_at "rd"
        refine ⟨_, hM5, ?_, same_at hD2 s5, ?_⟩
        · rw [List.length_map]
          exact szl (Nat.lt_of_le_of_lt (Nat.le_trans (List.length_filter_le _ _) (List.length_take_le' i ns)) (by omega))
        · rw [upd_same, take_filterA hn, List.filter_cons, if_pos h7, List.filter_nil, List.map_append]
          rfl
      · have h7 : ¬ (!decide (n ∈ c.map (·.1))) = true := h6
        rw [take_filterA hn, List.filter_cons, if_neg h7, List.filter_nil, List.append_nil]
        exact ⟨s5, hM5⟩
    rintro H5 ⟨s5, hM5⟩
    rw [List.length_map, List.take_length] at hM5
    walk_at "rd"
    refine ⟨D2, _, rfl, .inl ⟨sq hM5, fun r nr => ?_⟩⟩
    exact q r _ (sM.trans (s5.trans (same_new nr))) (sqt upd_same)
@[irreducible] def spFails (K : PySem.W.Frag) : Sp := fun vs H Q _ => ∃ (p d : Addr) (c : Cl) (l : As), vs = [.ref p, .ref d] ∧ Dp K H (.ref p) (clD c) ∧ H d = some (.dK (asV l)) ∧ c.length ≤ 1000 ∧ ∀ H', Same H H' → Q (.bl (fl l c)) H'
theorem ok_fails {f : Addr} {fd : FuncData} (F : Fun K "_fails" "_fails" s__fails f fd) (m_all : mg "all" = none) : FnOk P w K mg base CX0 1 f fd ["clause", "decided"] (spFails K) := by
  refine F.ok sc__fails (fun vs H Q E h => ?_) (fun cdv A outer s H vs Q E hr h => ?_)
  · unfold spFails at h
    obtain ⟨p, d, c, l, rfl, _⟩ := h
    rfl
  · unfold spFails at h
    obtain ⟨p, d, c, l, rfl, hc, hd, lc, q⟩ := h
    have hu := hu_of hr
    refine ⟨_, (pss_one (ps_ret (pe_callB (id := "all") (cr_all rfl) (by rfl) m_all (by decide +kernel) (pa_cons (pe_lc (own := [("name", 2), ("sign", 3)]) (tt := tYes) rfl sc__fails.nd (pi_tup (pv 0)) (blkOk_by (N := n__fails) (sc := defScope s__fails) (by decide +kernel)) (fun _ _ _ _ _ => pg_tupK (K := K) (n := 2) rfl rfl (pgs_cons (pg_name (i := 2) sc__fails.nd rfl (Or.inl rfl)) (pgs_cons (pg_name (i := 3) sc__fails.nd rfl (Or.inl rfl)) pgs_nil))) (fun _ _ _ _ _ => pts_nil) (fun _ _ _ _ _ => (pe_cmpR op_eq (pe_dget1 hu (pv 1) (pv 2) ⟨rfl, rfl, rfl, rfl⟩) (pe_op op_sub pe_int (pv 3)) (nomark _)))) pa_nil)))), ?_⟩
    walk_at "rd"
    obtain ⟨p', xs, ep, ht, ha⟩ := dp_tup hc
    cases ep
    have xl : xs.length = c.length := by rw [da_len ha, List.length_map]
    refine ⟨⟨_, ht⟩, fun D hD => ?_⟩
    refine lc_it walk_tup (fun i H' => Same H H' ∧ H' D = some (.lst ((c.take i).map fun x => V.bl (decide (lk l x.1 = some (1 - x.2)))))) ⟨same_new hD, upd_same⟩ (fun i H' _ h => Bx.Same.tup h.1 ht) ?_ ?_
    · rintro i v H2a H2 hi ⟨s2, hM⟩ ⟨rfl, hx⟩
      obtain ⟨x, hx1, dl⟩ := da_atM ha hx
      obtain ⟨b, rfl, hb⟩ := lit_dp (dp_same s2 dl)
      refine ⟨b, _, rfl, hb, rfl, _, _, rfl, _, _, rfl, rfl, rfl, ?_⟩
      walk_at "rd"
      refine ⟨.inl ⟨_, .inl (s2 _ _ hd)⟩, ?_⟩
      walk_at "rd"
      refine ⟨(lk l x.1).map V.int, ?_, ?_⟩
      · rw [← val_lk]
        exact DGet.k (k := .inr x.1) (s2 _ _ hd)
      walk_at "rd"
      refine ⟨by cases lk l x.1 <;> rfl, ?_⟩
      rw [get_lk]
      refine ⟨_, hM, ?_, same_at hD s2, ?_⟩
      · rw [List.length_map]
        exact szl (Nat.lt_of_le_of_lt (List.length_take_le' i c) (by omega))
      · rw [upd_same, List.take_add_one, hx1, List.map_append]
        rfl
    rintro H2 ⟨s2, hM⟩
    rw [xl, List.take_length] at hM
    refine ⟨_, c.map fun x => decide (lk l x.1 = some (1 - x.2)), rfl, sq (by rw [hM, List.map_map]; rfl), ?_⟩
    have e2 : (c.map fun x => decide (lk l x.1 = some (1 - x.2))).all id = fl l c := by
      unfold fl
      rw [List.all_map]
      rfl
    rw [e2]
    exact q _ s2
end
end K12
/-! {**d, k: v}, and min(xs, default=v). -/
namespace Dd
open PySem PySem.Spec PyProof.Rows L2 Bx TL
open Sem (wp)
section
variable {prog : Program} {w : World} {κ : Type} [DecidableEq κ] {knd : PySem.KeyKind prog w κ} {A : Around} {E : Value → Shared → Prop} {s : Shared}
theorem put_pairs {d : Addr} {kvs : List (κ × Value)} {k : κ} {key v : Value} {Q : Unit → Shared → Prop} (hkey : knd.is k key = true) (hm : s.heap.DictOf knd d kvs)
    (hQ : ∀ h', h'.DictOf knd d (PySem.stored kvs k v) → Heap.SameBut d s.heap h' → Q () { s with heap := h' }) (hsz : kvs.length ≤ sizeLine) :
    wpAny (model prog w) A (dictPut d (knd.hash k) key v) Q E s := by
  obtain ⟨o, es, ep, ho, hc, hd, hk, hp, hn⟩ := hm
  have hes : es.size ≤ sizeLine := by
    have e1 := hp.length
    have e2 : es.toList.length = es.size := by simp
    omega
  unfold dictPut
  refine wpAny_bind (PySem.wpAny_dictFind_of hkey ho hd hk ?_)
  have hidx : (es.findIdx? fun e => knd.is k e.key) = kvs.findIdx? fun kv => decide (kv.1 = k) := by
    rw [← hp.findIdx k]; obtain ⟨l⟩ := es; simp
  cases hi : es.findIdx? fun e => knd.is k e.key with
  | some i =>
    refine wpAny_updateDict ho hd (hQ _ ⟨_, _, ep, Heap.get?_update_self _ ho (Obj.isFreed_of_dict (Obj.data_mapDict hd _)), hc.mapDict _, Obj.data_mapDict hd _, hk.modify _ _, ?_, ?_⟩ (Heap.SameBut.update ..))
    · rw [PySem.stored, if_pos (PySem.any_of_findIdx_some (hidx ▸ hi))]
      have hl : (es.toList.findIdx? fun e => knd.is k e.key) = some i := by rw [← hi]; obtain ⟨l⟩ := es; simp
      have := hp.modify hn hl v
      obtain ⟨l⟩ := es
      simpa using this
    · rw [PySem.stored, if_pos (PySem.any_of_findIdx_some (hidx ▸ hi)), PySem.keys_map_store]; exact hn
  | none =>
    have hnot : k ∉ kvs.map (·.1) := PySem.not_mem_of_findIdx_none (hidx ▸ hi)
    have hany : ¬ (kvs.any fun kv => decide (kv.1 = k)) = true := by
      rw [List.any_eq_true]; rintro ⟨kv, hkv, he⟩
      exact hnot (List.mem_map.mpr ⟨kv, hkv, of_decide_eq_true he⟩)
    refine wpAny_updateDictKeys (hz := hes) ho hd (hQ _ ⟨_, _, ep + 1, Heap.get?_update_self _ ho (Obj.isFreed_of_dict (Obj.data_mapDictKeys hd _)), hc.mapDictKeys _, Obj.data_mapDictKeys hd _, hk.push hkey _, ?_, ?_⟩ (Heap.SameBut.update ..))
    · rw [PySem.stored, if_neg hany]
      have := hp.append hkey (knd.hash k) v
      obtain ⟨l⟩ := es
      simpa using this
    · rw [PySem.stored, if_neg hany, List.map_append, List.nodup_append]
      refine ⟨hn, by simp, ?_⟩
      intro a ha b hb
      simp only [List.map_cons, List.map_nil, List.mem_singleton] at hb
      subst hb
      exact fun e => hnot (e ▸ ha)
theorem merge_map {d o : Addr} {kvs more : List (κ × Value)} {Q : Unit → Shared → Prop} (hdo : d ≠ o) (hoS : (o == sysModules) = false)
    (hd : s.heap.DictOf knd d kvs) (ho : s.heap.DictOf knd o more)
    (hQ : ∀ h', h'.DictOf knd d (PySem.merged kvs more) → Heap.SameBut d s.heap h' → Q () { s with heap := h' })
    (hsz : kvs.length + more.length ≤ sizeLine) :
    wpAny (model prog w) A (mergeMapping d (.ref o) false) Q E s := by
  obtain ⟨od, esd, epd, hod, hcd, hdd, hkd, hpd, hnd⟩ := id hd
  obtain ⟨oo, eso, epo, hoo, hco, hdo', hko, hpo, hno⟩ := id ho
  have hlen : more.length = eso.size := by rw [← hpo.length]; simp
  unfold mergeMapping
  refine wpAny_bind (wpAny_isInstance ho.typeIs isSubtype_dict_dict ?_)
  simp only [if_true]
  refine wpAny_bind (wpAny_specialOf ho.typeIs F.slot_dict_iter.lookup (wpAny_bind (wpAny_pure ?_)))
  show wpAny _ _ (if (o == sysModules) = true then _ else _) _ _ _
  rw [if_neg (by rw [hoS]; exact Bool.false_ne_true)]
  have fin : wpAny (model prog w) A (do
      let size := (← dictEntries o).size
      let epoch ← dictEpoch o
      for i in List.range size do
        let some e := (← dictEntries o)[i]? | unsupported "dict.changed-during-merge"
        holding [e.key, e.val] do
          dictPut d e.hash e.key e.val
        if (← dictEpoch o) != epoch then unsupported "dict.changed-during-merge") Q E s := by
    refine wpAny_bind (wpAny_dictEntries hoo hdo' ?_)
    refine wpAny_bind (wpAny_dictEpoch hoo hdo' ?_)
    refine wpAny_bind (wpAny_forIn_list _
      (fun rest _ s' => ∃ h' i, s' = { s with heap := h' } ∧ rest = List.range' i (eso.size - i) ∧ i ≤ eso.size ∧ h'.DictOf knd d (PySem.merged kvs (more.take i)) ∧ h'.get? o = some oo ∧ Heap.SameBut d s.heap h')
      (fun _ s' => wpAny (model prog w) A (pure ()) Q E s') ?_ ?_ (List.range eso.size) _ ⟨s.heap, 0, rfl, by rw [Nat.sub_zero, List.range_eq_range'], Nat.zero_le _, by simpa [PySem.merged] using hd, hoo, Heap.SameBut.refl _ _⟩)
    · rintro x rest b s' ⟨h', i, rfl, hr, hi, hd', hoo', hs'⟩
      have hlt : i < eso.size := by
        rcases Nat.lt_or_ge i eso.size with h | h
        · exact h
        · rw [Nat.sub_eq_zero_of_le h] at hr; simp at hr
      obtain ⟨rfl, hrest⟩ : x = i ∧ rest = List.range' (i + 1) (eso.size - (i + 1)) := by
        have e : eso.size - i = (eso.size - (i + 1)) + 1 := by omega
        rw [e, List.range'_succ] at hr
        injection hr with h1 h2
        exact ⟨h1, h2⟩
      refine wpAny_bind (wpAny_dictEntries hoo' hdo' ?_)
      rw [Array.getElem?_eq_getElem hlt]
      obtain ⟨kv, hkv⟩ : ∃ kv, more[x]? = some kv := ⟨more[x]'(by rw [hlen]; exact hlt), List.getElem?_eq_getElem _⟩
      obtain ⟨k, v⟩ := kv
      obtain ⟨hkey, hval⟩ := hpo.get? (e := eso[x]) (by simp [hlt]) hkv
      obtain ⟨k', hkey', hhash⟩ := hko eso[x] (Array.getElem_mem hlt)
      obtain rfl : k' = k := knd.inj _ _ _ hkey' hkey
      show wpAny _ _ (holding [eso[x].key, eso[x].val] (dictPut d eso[x].hash eso[x].key eso[x].val) >>= _) _ _ _
      rw [hhash, hval]
      have hmx : (PySem.merged kvs (more.take x)).length ≤ sizeLine := by
        have e1 := PySem.merged_length_le kvs (more.take x)
        have e2 : (more.take x).length ≤ more.length := by rw [List.length_take]; omega
        omega
      refine wpAny_bind (wpAny_holding (put_pairs (hsz := hmx) hkey hd' fun h'' hd'' hs'' => ?_))
      have hoo'' : h''.get? o = some oo := (hs''.2 o (Ne.symm hdo)).trans hoo'
      refine wpAny_bind (wpAny_dictEpoch hoo'' hdo' ?_)
      rw [if_neg (by simp)]
      exact wpAny_pure ⟨h'', x + 1, rfl, hrest, hlt, by rw [PySem.merged_take_succ kvs more x (k', v) hkv]; exact hd'', hoo'', hs'.trans hs''⟩
    · rintro b s' ⟨h', i, rfl, hr, hi, hd', hoo', hs'⟩
      have hin : i = eso.size := by
        rcases Nat.lt_or_ge i eso.size with h | h
        · have e : eso.size - i = (eso.size - (i + 1)) + 1 := by omega
          rw [e, List.range'_succ] at hr; exact nomatch hr
        · exact Nat.le_antisymm hi h
      rw [hin, ← hlen, List.take_length] at hd'
      exact wpAny_pure (hQ h' hd' hs')
  refine wpAny_bind (wpAny_dictEntries hod hdd ?_)
  have noref : ∀ e ∈ eso, ∀ a, e.key ≠ .ref a := fun e he a ea => by
    obtain ⟨k, hk, _⟩ := hko e he
    have := knd.byValue k _ hk
    rw [ea] at this
    cases this
  by_cases hemp : esd.isEmpty = true
  · rw [if_pos hemp]
    refine wpAny_bind (wpAny_dictEntries hoo hdo' ?_)
    refine wpAny_bind ?_
    rw [← Array.forIn_toList]
    refine wpAny_forIn_list _ (fun rest _ s' => s' = s ∧ ∀ e ∈ rest, e ∈ eso) _ ?_ ?_ _ _ ⟨rfl, fun e he => Array.mem_toList_iff.mp he⟩
    · rintro e rest b s' ⟨rfl, hin⟩
      have he := hin e (List.mem_cons_self ..)
      have hno' := noref e he
      cases ek : e.key with
      | ref a => exact absurd ek (hno' a)
      | _ => exact wpAny_pure ⟨rfl, fun e' h' => hin e' (List.mem_cons_of_mem _ h')⟩
    · rintro b s' ⟨rfl, _⟩
      exact fin
  · rw [if_neg hemp]
    exact fin
end
end Dd
namespace Dd
open PySem PySem.Spec PyProof.Rows L2 Bx TL
/-- {**e, k: v} -/
def tDStar (te tk tv : TE) : TE := fun σ H Q => ∀ p, H p = none → te σ (upd H p (.dK [])) fun x H1 => ∃ a kvs, x = .ref a ∧ H1 a = some (.dK kvs) ∧ a ≠ p ∧ H1 p = some (.dK []) ∧ kvs.length + 1 ≤ sizeLine ∧
  ∀ p2, (upd H1 p (.dK kvs)) p2 = none → tPairs [(tk, tv)] σ (upd (upd H1 p (.dK kvs)) p2 (.dK [])) fun ps H3 => ∃ k z, ps = [(kV k, z)] ∧ H3 p = some (.dK kvs) ∧ H3 p2 = some (.dK []) ∧ Q (.ref p) (upd (upd H3 p2 (.dK [(k, z)])) p (.dK (putK kvs k z)))
theorem pe_dstar {X : Cx} {e k v : Expr} {te tk tv : TE} {pos : Pos} (he : PE X e te) (hk : PE X k tk) (hv : PE X v tv) : PE X (.Dict [none, some k] [e, v] pos) (tDStar te tk tv) := by
  refine ⟨fun pins s σ H Q I q => ?_⟩
  rw [arm_eval_Dict]
  refine wpAny_bind (wpAny_standAt ?_)
  show wpAny _ _ (dictDisplay [(none, do let x ← eval e X.env; standAt pos; pure x), (some (eval k X.env), do let x ← eval v X.env; standAt pos; pure x)]) _ _ _
  unfold dictDisplay
  simp only [List.forIn_cons, List.forIn_nil, List.isEmpty_nil, if_true, pure_bind, List.nil_append, List.length_cons, List.length_nil]
  have hp0 := I.hok.fresh (Nat.le_refl s.heap.objs.size)
  have I1 := I.laid (a := s.heap.objs.size) (o := .dK []) (h' := s.heap.push { cls := .type "dict", data := .dict #[] }) (t' := s.toks) (fun _ _ z => Heap.get?_push_of_some _ z) (Nat.le_refl _) (dk_empty s.heap I.big)
  refine wpAny_bind (wpAny_bind (wpAny_bind (wpAny_alloc (wpAny_bind (wpAny_holding (wpAny_bind (thn (he.run pins _ σ _ _ I1 (q _ hp0)) fun u s1 ⟨x, H1, I2, r1, a, kvs, ex, ea, nap, ep, hz, q1⟩ => ?_)))))))
  refine wpAny_bind (wpAny_standAt (wpAny_pure ?_))
  subst ex
  obtain rfl : u = Value.ref a := r1
  obtain ⟨z0, hd0, vs0, r0, dd0⟩ := dk_of I2.hok ep
  cases r0
  obtain ⟨za, hda, vsa, ra, dda⟩ := dk_of I2.hok ea
  have len : kvs.length = vsa.length := ra.length
  have nd : (vsa.map (·.1)).Nodup := by
    obtain ⟨_, _, _, _, _, _, _, _, hn⟩ := dda
    exact hn
  refine wpAny_bind (wpAny_onRaise (wpAny_tryCatch (wpAny_onRaise (wpAny_holding (merge_map (Ne.symm nap) hda dd0 dda (fun h1 m1 sb1 => ?_) (by rw [List.length_nil]; omega))))))
  rw [PySem.merged_nil_of_nodup _ nd] at m1
  have hp1 : ∃ z, h1.get? s.heap.objs.size = some z := let ⟨z, _, _, hq, _⟩ := m1; ⟨z, hq⟩
  have I3 : L2.Inv X pins σ (upd H1 s.heap.objs.size (.dK kvs)) { s1 with heap := h1 } := d_write (t' := s1.toks) I2 (by rw [ep]; exact True.intro) sb1 hp1 (dk_new (by omega) hd0 ra m1)
  refine wpAny_pure (wpAny_pure (wpAny_bind ?_))
  show wpAny _ _ (holding [.ref s.heap.objs.size] (subDict (pairTrees [some k] [v] X.env pos)) >>= _) _ _ _
  have hp2 := I3.hok.fresh (Nat.le_refl h1.objs.size)
  have np12 : s.heap.objs.size ≠ h1.objs.size := fun z => by
    obtain ⟨o, ho⟩ := hp1
    exact Nat.ne_of_lt (PySem.Heap.lt_size ho) z
  have I4 := I3.laid (a := h1.objs.size) (o := .dK []) (h' := h1.push { cls := .type "dict", data := .dict #[] }) (t' := s1.toks) (fun _ _ z => Heap.get?_push_of_some _ z) (Nat.le_refl _) (dk_empty h1 I3.big)
  refine wpAny_bind (wpAny_holding (wpAny_subDict (knd := mixKind X.prog X.w) (by show 1 ≤ 15; decide) (thn ((pps_cons (pos := pos) hk hv pps_nil).run pins _ σ _ _ I4 (q1 _ hp2)) fun ws s2 ⟨ps, H3, I5, rel, kk, z, eps, e1, e2, q2⟩ => ?_)))
  subst eps
  obtain ⟨rs, cr, rk⟩ := carries_of (P := X.prog) (w := X.w) (kvs := [(kk, z)]) rel
  obtain ⟨z2, hd2, vs2, r2, dd2⟩ := dk_of I5.hok e2
  cases r2
  refine ⟨rs, cr, dd2, fun h2 m2 sb2 => ?_⟩
  have n2 : (rs.map (·.1)).Nodup := by
    have ek := rk.keys
    rw [← ek]
    exact List.nodup_cons.mpr ⟨List.not_mem_nil, List.nodup_nil⟩
  rw [PySem.merged_nil_of_nodup _ n2] at m2
  have hp3 : ∃ z, h2.get? h1.objs.size = some z := let ⟨z, _, _, hq, _⟩ := m2; ⟨z, hq⟩
  have I6 : L2.Inv X pins σ (upd H3 h1.objs.size (.dK [(kk, z)])) { s2 with heap := h2, toks := s2.toks + ws.length } := d_write I5 (by rw [e2]; exact True.intro) sb2 hp3 (dk_new (by rw [sizeLine_eq]; show 1 ≤ 16777216; decide) hd2 rk m2)
  have e3 : (upd H3 h1.objs.size (.dK [(kk, z)])) s.heap.objs.size = some (.dK kvs) := by rw [upd_ne np12]; exact e1
  obtain ⟨z3, hd3, vs3, r3, dd3⟩ := dk_of I6.hok e3
  refine wpAny_bind (wpAny_onRaise (wpAny_holding (merge_map np12 hd2 dd3 m2 (fun h3 m3 sb3 => ?_) ?_)))
  · obtain ⟨rv, rs2⟩ : ∃ rv, rs = [(kk, rv)] ∧ RelV z rv := by
      cases rk with
      | cons h t =>
        cases t
        obtain ⟨h1, h2⟩ := h
        exact ⟨_, congrArg (fun z => [z]) (Prod.ext h1.symm rfl), h2⟩
    obtain ⟨rfl, rzv⟩ := rs2
    have hp4 : ∃ z, h3.get? s.heap.objs.size = some z := let ⟨z, _, _, hq, _⟩ := m3; ⟨z, hq⟩
    refine wpAny_pure (wpAny_pure ⟨.ref s.heap.objs.size, _, d_write (t' := s2.toks + ws.length) I6 (by rw [e3]; exact True.intro) sb3 hp4 (dk_new ?_ hd3 (r3.put kk rzv) m3), rfl, q2⟩)
    have := length_putK kvs kk z
    omega
  · have l3 : kvs.length = vs3.length := r3.length
    have l4 : [(kk, z)].length = rs.length := rk.length
    have l5 : [(kk, z)].length = 1 := rfl
    omega
end Dd
namespace K12
local macro_rules | `(tactic| walk_at "rd") => `(tactic| repeat (first | refine ⟨rfl, ?_⟩ | refine ⟨_, rfl, ?_⟩ | refine ⟨_, _, rfl, rfl, ?_⟩ | refine ⟨⟨_, rfl⟩, ?_⟩))
open PySem PySem.Spec PyProof.Rows L2 Bx TL Dx Zx Ow Sup NdefX Px
theorem eqv_nil (ms : List Str) : PyData.eqv (.tuple (ms.map PyData.str)) (.tuple []) = decide (ms = []) := by
  cases ms <;> rfl
theorem cut_tail (x : V) (xs : List V) : cutV (x :: xs) (some 1) none = xs := by
  unfold cutV
  have e1 : HT.sIx (x :: xs).length 0 (some 1) = 1 := by
    have z := HT.sIx_nat (x :: xs).length 0 1
    rw [List.length_cons] at z ⊢
    exact z.trans (by omega)
  have e2 : HT.sIx (x :: xs).length (x :: xs).length none = (x :: xs).length := rfl
  rw [e1, e2, List.drop_succ_cons, List.drop_zero]
  exact List.take_of_length_le (by rw [List.length_cons]; omega)
theorem not_whole (x : V) (xs : List V) : ¬ (HT.sIx (x :: xs).length 0 (some 1) = 0 ∧ HT.sIx (x :: xs).length (x :: xs).length none = (x :: xs).length) := by
  intro h
  have e1 : HT.sIx (x :: xs).length 0 (some 1) = 1 := by
    have z := HT.sIx_nat (x :: xs).length 0 1
    rw [List.length_cons] at z ⊢
    exact z.trans (by omega)
  omega
section
variable {P : Program} {w : World} {K : PySem.W.Frag} {mg : Str → Option Value} {base : Heap}
/-- what comes back: None or a dict -/
def AD (H : Hp) (v : V) : Option As → Prop
  | none => v = .non
  | some r => ∃ e, v = .ref e ∧ H e = some (.dK (asV r))
/-- the search over fewer than k names -/
def spSol (K : PySem.W.Frag) : Nat → Sp
  | 0 => fun _ _ _ _ => False
  | k + 1 => fun vs H Q _ => ∃ (na ca d : Addr) (xs : List V) (ms : List Str) (cs : List Cl) (l : As), vs = [.ref na, .ref ca, .ref d] ∧ SqT K H na (ms.map V.str) ∧ ms.length ≤ k ∧ SqT K H ca xs ∧ DpAll K H xs (cs.map clD) ∧ (∀ c ∈ cs, c.length ≤ 1000) ∧ cs.length ≤ 1000 ∧ H d = some (.dK (asV l)) ∧ (l.map (·.1) ++ ms).Nodup ∧ (l.length + ms.length ≤ 1000) ∧ (∀ z ∈ ms, PyData.strOk z = true) ∧
    ∀ v o H', Same H H' → SolR cs l ms o → AD H' v o → Q v H'
set_option maxHeartbeats 2000000 in
theorem ok_solution {f : Addr} {fd : FuncData} (F : Fun K "_solution" "_solution" s__solution f fd) (m_any : mg "any" = none) (C__fails : Cal P w K mg base "_fails" 1 ["clause", "decided"] (spFails K)) (gS : mg "_solution" = some (.ref f)) (kS : PySem.W.keepIn K (.ref f) = true) (bS : Binds K fd ["names", "clauses", "decided"] []) : ∀ k : Nat, FnOk P w K mg base CX0 (k + 1) f fd ["names", "clauses", "decided"] (spSol K k)
  | 0 => F.ok sc__solution (fun vs H Q E h => h.elim) (fun cdv A outer s H vs Q E hr h => h.elim)
  | k + 1 => by
    have C__solution : Cal P w K mg base "_solution" (k + 1) ["names", "clauses", "decided"] (spSol K k) := ⟨_, _, ok_solution F m_any C__fails gS kS bS k, gS, kS, bS⟩
    refine F.ok sc__solution (fun vs H Q E h => ?_) (fun cdv A outer s H vs Q E hr h => ?_)
    · obtain ⟨na, ca, d, xs, ms, cs, l, rfl, _⟩ := h
      rfl
    · obtain ⟨na, ca, d, xs, ms, cs, l, rfl, hn, hk, hc, hd, lc, ll, hdic, nd, lm, okm, q⟩ := h
      have hu := hu_of hr
      have xl : xs.length = cs.length := by rw [da_len hd, List.length_map]
      refine ⟨_, (pss_cons (ps_if (pt_val (pe_callB (id := "any") (cr_any rfl) (by rfl) m_any (by decide +kernel) (pa_cons (pe_lc (own := [("clause", 5)]) (tt := tYes) rfl sc__solution.nd (pi_tup (pv 1)) (blkOk_by (N := n__solution) (sc := defScope s__solution) (by decide +kernel)) (fun _ _ _ _ _ => pg_name (i := 5) sc__solution.nd rfl (Or.inl rfl)) (fun _ _ _ _ _ => pts_nil) (fun _ _ _ _ _ => (pe_cal C__fails (hr.mono (by omega)) (pa_cons (pv 5) (pa_cons (pv 2) pa_nil))))) pa_nil)))
      (pss_one (ps_ret pe_non))
      pss_nil)
    (pss_cons (ps_if (pt_cmpR (op_eqD hr.units) (pv 0) (pe_tup pa_nil) (nomark _))
      (pss_one (ps_ret (pv 2)))
      pss_nil)
    (pss_cons (ps_for PassesOwn.never rfl (pi_tup (pe_tup (pa_cons pe_int (pa_cons pe_int pa_nil)))) (pg_name (i := 3) sc__solution.nd rfl (Or.inl rfl))
      (pss_cons (ps_set (i := 4) sc__solution.nd rfl (Or.inl rfl) (pe_cal C__solution (hr.mono (by omega)) (pa_cons (pe_slice sl_tupA (pv 0) (po_some pe_int) po_none) (pa_cons (pv 1) (pa_cons (Dd.pe_dstar (pv 2) (pe_ix ix_tup (pv 0) pe_int (fun _ _ => rfl)) (pv 3)) pa_nil)))))
    (pss_one (ps_if (pt_cmpR op_notN (pv 4) pe_non (nomark _))
      (pss_one (ps_ret (pv 4)))
      pss_nil))))
    (pss_one (ps_ret pe_non))))), ?_⟩
      walk_at "rd"
      refine ⟨⟨_, hc⟩, fun D hD => ?_⟩
      refine lc_it walk_tup (fun i H' => Same H H' ∧ H' D = some (.lst ((cs.take i).map fun c => V.bl (fl l c)))) ⟨same_new hD, upd_same⟩ (fun i H' _ h => Bx.Same.tup h.1 hc) ?_ ?_
      · rintro i v H2a H2 hi ⟨s2, hM⟩ ⟨rfl, hx⟩
        obtain ⟨c, hc1, dc⟩ := da_atM hd hx
        obtain ⟨b, ys, rfl, hb, _⟩ := dp_tup dc
        refine ⟨rfl, ?_⟩
        walk_at "rd"
        show spFails K _ _ _ _
        unfold spFails
        refine ⟨b, d, c, l, rfl, dp_same s2 dc, s2 _ _ hdic, lc c (List.mem_of_getElem? hc1), fun H3 s3 => ?_⟩
        refine ⟨_, s3 _ _ hM, ?_, same_at hD (s2.trans s3), ?_⟩
        · rw [List.length_map]
          exact szl (Nat.lt_of_le_of_lt (List.length_take_le' i cs) (by omega))
        · rw [upd_same, List.take_add_one, hc1, List.map_append]
          rfl
      rintro H2 ⟨s2, hM⟩
      rw [xl, List.take_length] at hM
      refine ⟨_, cs.map (fl l), rfl, sq (by rw [hM, List.map_map]; rfl), ?_⟩
      have e2 : (cs.map (fl l)).any id = cs.any (fl l) := by
        rw [List.any_map]
        rfl
      rw [e2]
      cases ha : cs.any (fl l) with
      | true =>
        obtain ⟨c, h1, h2⟩ := List.any_eq_true.mp ha
        walk_at "rd"
        exact q .non none H2 s2 (sol_fail h1 h2) rfl
      | false =>
        have nof : ∀ c ∈ cs, fl l c = false := fun c hc => by
          have z := List.any_eq_false.mp ha c hc
          simpa using z
        walk_at "rd"
        refine ⟨sz (by decide), fun T nT => ?_⟩
        have sT := s2.trans (same_new nT (o := .tup ([] : List V)))
        have hT := upd_same (H := H2) (a := T) (o := .tup ([] : List V))
        generalize upd H2 T (.tup []) = H3 at sT hT ⊢
        walk_at "rd"
        refine ⟨.tuple (ms.map PyData.str), .tuple [], names_dp (Bx.Same.tup sT hn), .tup (sqt hT) .nil, shape (n := 1) (lay_tuple (n := 0) (lays_strs okm)) (by decide), rfl, ?_⟩
        rw [eqv_nil]
        match ms, hn, hk, nd, lm, okm, q with
        | [], hn, hk, nd, lm, okm, q =>
          walk_at "rd"
          exact q _ (some l) H3 sT (sol_done nof) ⟨d, rfl, sT _ _ hdic⟩
        | n :: ms, hn, hk, nd, lm, okm, q =>
          obtain ⟨k, rfl⟩ : ∃ j, k = j + 1 := ⟨k - 1, by rw [List.length_cons] at hk; omega⟩
          have hn3 := Bx.Same.tup sT hn
          refine ⟨_, rfl, ?_⟩
          refine ite2 (fun h => absurd h (by simp)) (fun _ => ?_)
          walk_at "rd"
          refine ⟨sz (by show 2 ≤ 100000; decide), fun T0 n0 => ?_⟩
          have s0 := sT.trans (same_new n0 (o := .tup [.int 0, .int 1]))
          have hT0 := upd_same (H := H3) (a := T0) (o := .tup [.int 0, .int 1])
          generalize upd H3 T0 (.tup [.int 0, .int 1]) = H4 at s0 hT0 ⊢
          have ht0 : SqT K H4 T0 [.int 0, .int 1] := sqt hT0
          have nin : n ∉ l.map (·.1) := fun m => by
            rw [List.nodup_append] at nd
            exact nd.2.2 n m n (List.mem_cons_self ..) rfl
          refine ⟨T0, rfl, ⟨_, ht0⟩, for_it (walk_tup (K := K) (a := T0) (xs := [V.int 0, V.int 1])) (fun i σ H' => ∃ (o3 o4 : Option V), σ = [some (.ref na), some (.ref ca), some (.ref d), o3, o4, none] ∧ Same H4 H' ∧ (1 ≤ i → SolR cs (l ++ [(n, 0)]) ms none) ∧ (2 ≤ i → SolR cs (l ++ [(n, 1)]) ms none)) ⟨none, none, rfl, Same.refl H4, fun h => absurd h (by decide), fun h => absurd h (by decide)⟩ (fun i σ H' _ ⟨_, _, _, s, _⟩ => Bx.Same.tup s ht0) ?_ ?_⟩
          · rintro i x σ H5a H5 hi ⟨o3, o4, rfl, s5, f0, f1⟩ ⟨rfl, hx⟩
            have s05 := s0.trans s5
            obtain ⟨v, rfl, hv⟩ : ∃ v : Int, x = .int v ∧ ((i = 0 ∧ v = 0) ∨ (i = 1 ∧ v = 1)) := by
              have hi2 : i < 2 := hi
              rcases Nat.lt_or_ge i 1 with h | h
              · have e : i = 0 := by omega
                subst e
                exact ⟨0, (Option.some.inj hx).symm, .inl ⟨rfl, rfl⟩⟩
              · have e : i = 1 := by omega
                subst e
                exact ⟨1, (Option.some.inj hx).symm, .inr ⟨rfl, rfl⟩⟩
            have v01 : v = 0 ∨ v = 1 := hv.elim (fun h => .inl h.2) fun h => .inr h.2
            walk_at "rd"
            refine ⟨na, _, rfl, Bx.Same.tup s05 hn, fun h => absurd h (not_whole _ _), fun _ tl ntl => ?_⟩
            have stl := same_new ntl (o := .tup (cutV ((n :: ms).map V.str) (some 1) none))
            have htl : (upd H5 tl (.tup (cutV ((n :: ms).map V.str) (some 1) none))) tl = some (.tup (ms.map V.str)) := by
              rw [upd_same, List.map_cons, cut_tail]
            generalize upd H5 tl (.tup (cutV ((n :: ms).map V.str) (some 1) none)) = H6 at stl htl ⊢
            have s06 := s05.trans stl
            walk_at "rd"
            refine fun p np => ?_
            have nap : d ≠ p := fun e => by rw [← e, s06 _ _ hdic] at np; cases np
            walk_at "rd"
            refine ⟨d, asV l, rfl, (by rw [upd_ne nap]; exact s06 _ _ hdic), nap, upd_same, (by rw [show (asV l).length = l.length from List.length_map _]; exact sz (by rw [List.length_cons] at lm; omega)), fun p2 np2 => ?_⟩
            have n12 : p2 ≠ p := fun e => by rw [e, upd_same] at np2; cases np2
            have np2' : H6 p2 = none := by rw [upd_upd, upd_ne n12] at np2; exact np2
            walk_at "rd"
            have hn6 : SqT K (upd (upd (upd H6 p (.dK [])) p (.dK (asV l))) p2 (.dK [])) na ((n :: ms).map V.str) := by
              refine Bx.Same.tup (fun b o hb => ?_) (Bx.Same.tup s06 hn)
              rw [upd_ne (ne_of_none hb np2'), upd_upd, upd_ne (ne_of_none hb np)]
              exact hb
            refine ⟨_, _, _, _, rfl, rfl, hn6, atI_nat (j := 0) rfl, ?_⟩
            walk_at "rd"
            refine ⟨.inr n, .int v, rfl, by rw [upd_ne (Ne.symm n12), upd_same], upd_same, ?_⟩
            obtain ⟨s67, hp7⟩ := star_heap (k := .inr n) (z := .int v) (r := putK (asV l) (.inr n) (.int v)) np np2
            rw [put_as nin] at s67 hp7 ⊢
            generalize upd (upd (upd (upd (upd H6 p (.dK [])) p (.dK (asV l))) p2 (.dK [])) p2 (.dK [(.inr n, .int v)])) p (.dK (asV (l ++ [(n, v)]))) = H7 at s67 hp7 ⊢
            have s07 := s06.trans s67
            refine ⟨tl, ca, p, xs, ms, cs, l ++ [(n, v)], rfl, sqt (s67 _ _ htl), by rw [List.length_cons] at hk; omega, Bx.Same.tup s07 hc, dpAll_same s07 hd, lc, ll, hp7, ?_, ?_, fun z hz => okm z (List.mem_cons_of_mem _ hz), fun u o H8 s8 sr au => ?_⟩
            · rw [List.map_append, List.append_assoc]
              exact nd
            · rw [List.length_append]
              rw [List.length_cons] at lm
              show l.length + 1 + ms.length ≤ 1000
              omega
            have s08 := s07.trans s8
            walk_at "rd"
            cases o with
            | some r =>
              obtain ⟨e, rfl, he⟩ := au
              refine ite2 (fun _ => ?_) (fun h => absurd (show (!decide (V.ref e = V.non)) = true by simp) h)
              walk_at "rd"
              exact q _ (some r) H8 s08 (sol_some v01 sr) ⟨e, rfl, he⟩
            | none =>
              have eu : u = .non := au
              subst eu
              refine ite2 (fun h => absurd h (by decide)) (fun _ => ?_)
              walk_at "rd"
              have s48 : Same H4 H8 := s5.trans (stl.trans (s67.trans s8))
              refine ⟨_, _, rfl, s48, fun h => ?_, fun h => ?_⟩
              · rcases hv with ⟨rfl, rfl⟩ | ⟨rfl, rfl⟩
                · exact sr
                · exact f0 (by decide)
              · rcases hv with ⟨rfl, rfl⟩ | ⟨rfl, rfl⟩
                · exact absurd h (by decide)
                · exact sr
          · rintro σ H5 ⟨o3, o4, rfl, s5, f0, f1⟩
            walk_at "rd"
            exact q .non none H5 (s0.trans s5) (sol_none (f0 (by decide)) (f1 (by decide))) rfl
end
end K12
/-! enumerate(xs, start=k), xs a list or a tuple, walked. -/
namespace En
open PySem PySem.Spec PyProof.Rows L2 Bx TL Dx
def ItL (K : PySem.W.Frag) (a : Addr) (k : Int) : It :=
  ⟨fun i H => ∃ (xs : List V) (x : V), SqL K H a xs ∧ xs[i]? = some x, fun i H v H' => ∃ T x, v = .ref T ∧ H T = none ∧ H' = upd H T (.tup [.int (k + (i : Nat)), x]) ∧ ∀ xs, SqL K H a xs → xs[i]? = some x, fun i H => ∃ xs : List V, SqL K H a xs ∧ xs.length = i⟩
theorem turn_L {P : Program} {w : World} {K : PySem.W.Frag} {elts : List Expr} {kk : Nat} {tpos : Pos} (k : Int) (a e it : Addr) (nai : a ≠ it) (nea : e ≠ a) (nei : e ≠ it) :
    Turn P w K (.Tuple elts kk tpos) (ItL K a k) [e, it] e (fun i h => (∃ old, IsEnum h e it (k + (i : Nat)) old) ∧ h.IsListIter it a i) where
  mem := by simp
  obj := fun i h st b hb => by
    obtain ⟨⟨old, he⟩, ⟨o, ho, hc, hd⟩⟩ := st
    have e' : b = e ∨ b = it := by simpa using hb
    rcases e' with z | z
    · rw [z]; exact ⟨_, he, fun v q => nomatch q⟩
    · rw [z]; exact ⟨o, ho, fun v q => by rw [hd] at q; cases q⟩
  keep := fun i h h' st k => let ⟨⟨old, he⟩, hi⟩ := st; ⟨⟨old, k e (by simp) _ he⟩, hi.at fun o q => k it (by simp) o q⟩
  item := by
    intro X hP hw hK hc i pins s σ H E I hf st hg
    subst hP hw hK
    obtain ⟨⟨old, he⟩, hit⟩ := st
    obtain ⟨xs, x, hq, hx⟩ := hg
    obtain ⟨its, rv, p, hz⟩ := I.list hq
    obtain ⟨u, hu, ru⟩ := rv.get hx
    have hel : e < s.heap.objs.size := Heap.lt_size he
    have hil : it < s.heap.objs.size := by obtain ⟨_, q, _⟩ := hit; exact Heap.lt_size q
    have hlt : i < its.toArray.size := by
      have := (List.getElem?_eq_some_iff.mp hu).1
      simpa using this
    have hh : X.A.in1.handled = none := I.ok.hd hc
    refine wpAny_pyNext_enum_itemC (Draws.list hh it a nai its.toArray) he ⟨hit, p.isList⟩ hlt nei (by simp [nei, nea]) fun y h' tk hy ho st' hT hsz hk => ?_
    have ey : y = u := by
      have z : its.toArray[i]? = some u := by simpa using hu
      exact Option.some.inj ((show its.toArray[i]? = some y from hy).symm.trans z)
    subst ey
    refine ⟨_, rfl, wpAny_letOwnedTupleGo_enum (s := { s with heap := h', toks := tk + 1 }) ho fun h'' he' sb => ?_⟩
    have hT2 : h''.get? s.heap.objs.size = some { cls := .type "tuple", data := .seq #[.int (k + (i : Nat)) tk, y] } := (sb.2 _ (Nat.ne_of_gt hel)).trans hT
    have new : ObjOk X.prog X.w (upd H s.heap.objs.size (.tup [.int (k + (i : Nat)), x])) h'' s.heap.objs.size (.tup [.int (k + (i : Nat)), x]) :=
      ⟨by show 2 ≤ sizeLine; decide, [.int (k + (i : Nat)) tk, y], .cons ⟨_, rfl⟩ (.cons ru .nil), ⟨_, hT2, rfl, _, rfl⟩⟩
    have I1 : Inv X pins σ (upd H s.heap.objs.size (.tup [.int (k + (i : Nat)), x])) { s with heap := h'', toks := tk + 1 } :=
      I.turnedNew (ch := [e, it]) (fun b ob hb q => (sb.2 b (fun z => hb (by simp [z]))).trans (hk b ob (fun z => hb (by simp [z])) (fun z => hb (by simp [z])) q)) hf (Nat.le_refl _) new
    refine ⟨.ref s.heap.objs.size, _, I1, rfl, ⟨_, x, rfl, I.hok.fresh (Nat.le_refl _), rfl, fun ys hy => by rw [I.list_inj hy hq]; exact hx⟩, ⟨⟨y, ?_⟩, st'.1.at fun o q => (sb.2 it (Ne.symm nei)).trans q⟩, fun b hb => ?_⟩
    · have e1 : k + ((i + 1 : Nat) : Int) = k + (i : Int) + 1 := by omega
      rw [e1]; exact he'
    · have hb' : b < s.heap.objs.size := by
        have e' : b = e ∨ b = it := by simpa using hb
        rcases e' with z | z
        · rw [z]; exact hel
        · rw [z]; exact hil
      rw [upd_ne (Nat.ne_of_lt hb')]
      exact (hf b hb).1
  done := by
    intro X hP hw hK hc i pins s σ H E I hf st hg
    subst hP hw hK
    obtain ⟨⟨old, he⟩, hit⟩ := st
    obtain ⟨xs, hq, hx⟩ := hg
    obtain ⟨its, rv, p, hz⟩ := I.list hq
    obtain ⟨f0, f1, f2, f3, f4, f5⟩ := hf it (by simp)
    have hl := rv.length
    have hh : X.A.in1.handled = none := I.ok.hd hc
    have hn : its.toArray.size = i := by
      rw [← hx, hl]
      simp
    exact wpAny_pyNext_enum_endD (Draws.list hh it a nai its.toArray) he (by rw [hn]; exact ⟨hit, p.isList⟩) fun h' eb => ⟨rfl, I.turned (t' := s.toks) (fun b o hb q => eb b o hb q) f0 f1 f3 f4 f5⟩
  self := fun A i s Q E st h => let ⟨⟨_, he⟩, _⟩ := st; wpAny_pyIter_enum he h
theorem walk_L {K : PySem.W.Frag} {a : Addr} {k : Int} {xs : List V} : Walk (ItL K a k) xs.length (fun H => SqL K H a xs) (fun i H v H' => ∃ T x, v = .ref T ∧ H T = none ∧ H' = upd H T (.tup [.int (k + (i : Nat)), x]) ∧ xs[i]? = some x) where
  goes := fun i H hi h => ⟨xs, xs[i], h, by simp [hi]⟩
  stops := fun H h => ⟨xs, h, rfl⟩
  yields := fun i H x H' hi h y => let ⟨T, v, e1, e2, e3, e4⟩ := y; ⟨T, v, e1, e2, e3, e4 xs h⟩
def ItT (K : PySem.W.Frag) (a : Addr) (k : Int) : It :=
  ⟨fun i H => ∃ (xs : List V) (x : V), SqT K H a xs ∧ xs[i]? = some x, fun i H v H' => ∃ T x, v = .ref T ∧ H T = none ∧ H' = upd H T (.tup [.int (k + (i : Nat)), x]) ∧ ∀ xs, SqT K H a xs → xs[i]? = some x, fun i H => ∃ xs : List V, SqT K H a xs ∧ xs.length = i⟩
theorem turn_T {P : Program} {w : World} {K : PySem.W.Frag} {elts : List Expr} {kk : Nat} {tpos : Pos} (k : Int) (a e it : Addr) (nai : a ≠ it) (nea : e ≠ a) (nei : e ≠ it) :
    Turn P w K (.Tuple elts kk tpos) (ItT K a k) [e, it] e (fun i h => (∃ old, IsEnum h e it (k + (i : Nat)) old) ∧ h.IsTupleIter it a i) where
  mem := by simp
  obj := fun i h st b hb => by
    obtain ⟨⟨old, he⟩, ⟨o, ho, hc, hd⟩⟩ := st
    have e' : b = e ∨ b = it := by simpa using hb
    rcases e' with z | z
    · rw [z]; exact ⟨_, he, fun v q => nomatch q⟩
    · rw [z]; exact ⟨o, ho, fun v q => by rw [hd] at q; cases q⟩
  keep := fun i h h' st k => let ⟨⟨old, he⟩, hi⟩ := st; ⟨⟨old, k e (by simp) _ he⟩, hi.at fun o q => k it (by simp) o q⟩
  item := by
    intro X hP hw hK hc i pins s σ H E I hf st hg
    subst hP hw hK
    obtain ⟨⟨old, he⟩, hit⟩ := st
    obtain ⟨xs, x, hq, hx⟩ := hg
    obtain ⟨its, rv, p, hz⟩ := I.tuple hq
    obtain ⟨u, hu, ru⟩ := rv.get hx
    have hel : e < s.heap.objs.size := Heap.lt_size he
    have hil : it < s.heap.objs.size := by obtain ⟨_, q, _⟩ := hit; exact Heap.lt_size q
    have hlt : i < its.toArray.size := by
      have := (List.getElem?_eq_some_iff.mp hu).1
      simpa using this
    have hh : X.A.in1.handled = none := I.ok.hd hc
    refine wpAny_pyNext_enum_itemC (Draws.tuple hh it a nai its.toArray) he ⟨hit, (show s.heap.IsTuple a its.toArray from p)⟩ hlt nei (by simp [nei, nea]) fun y h' tk hy ho st' hT hsz hk => ?_
    have ey : y = u := by
      have z : its.toArray[i]? = some u := by simpa using hu
      exact Option.some.inj ((show its.toArray[i]? = some y from hy).symm.trans z)
    subst ey
    refine ⟨_, rfl, wpAny_letOwnedTupleGo_enum (s := { s with heap := h', toks := tk + 1 }) ho fun h'' he' sb => ?_⟩
    have hT2 : h''.get? s.heap.objs.size = some { cls := .type "tuple", data := .seq #[.int (k + (i : Nat)) tk, y] } := (sb.2 _ (Nat.ne_of_gt hel)).trans hT
    have new : ObjOk X.prog X.w (upd H s.heap.objs.size (.tup [.int (k + (i : Nat)), x])) h'' s.heap.objs.size (.tup [.int (k + (i : Nat)), x]) :=
      ⟨by show 2 ≤ sizeLine; decide, [.int (k + (i : Nat)) tk, y], .cons ⟨_, rfl⟩ (.cons ru .nil), ⟨_, hT2, rfl, _, rfl⟩⟩
    have I1 : Inv X pins σ (upd H s.heap.objs.size (.tup [.int (k + (i : Nat)), x])) { s with heap := h'', toks := tk + 1 } :=
      I.turnedNew (ch := [e, it]) (fun b ob hb q => (sb.2 b (fun z => hb (by simp [z]))).trans (hk b ob (fun z => hb (by simp [z])) (fun z => hb (by simp [z])) q)) hf (Nat.le_refl _) new
    refine ⟨.ref s.heap.objs.size, _, I1, rfl, ⟨_, x, rfl, I.hok.fresh (Nat.le_refl _), rfl, fun ys hy => by rw [I.tuple_inj hy hq]; exact hx⟩, ⟨⟨y, ?_⟩, st'.1.at fun o q => (sb.2 it (Ne.symm nei)).trans q⟩, fun b hb => ?_⟩
    · have e1 : k + ((i + 1 : Nat) : Int) = k + (i : Int) + 1 := by omega
      rw [e1]; exact he'
    · have hb' : b < s.heap.objs.size := by
        have e' : b = e ∨ b = it := by simpa using hb
        rcases e' with z | z
        · rw [z]; exact hel
        · rw [z]; exact hil
      rw [upd_ne (Nat.ne_of_lt hb')]
      exact (hf b hb).1
  done := by
    intro X hP hw hK hc i pins s σ H E I hf st hg
    subst hP hw hK
    obtain ⟨⟨old, he⟩, hit⟩ := st
    obtain ⟨xs, hq, hx⟩ := hg
    obtain ⟨its, rv, p, hz⟩ := I.tuple hq
    obtain ⟨f0, f1, f2, f3, f4, f5⟩ := hf it (by simp)
    have hl := rv.length
    have hh : X.A.in1.handled = none := I.ok.hd hc
    have hn : its.toArray.size = i := by
      rw [← hx, hl]
      simp
    exact wpAny_pyNext_enum_endD (Draws.tuple hh it a nai its.toArray) he (by rw [hn]; exact ⟨hit, (show s.heap.IsTuple a its.toArray from p)⟩) fun h' eb => ⟨rfl, I.turned (t' := s.toks) (fun b o hb q => eb b o hb q) f0 f1 f3 f4 f5⟩
  self := fun A i s Q E st h => let ⟨⟨_, he⟩, _⟩ := st; wpAny_pyIter_enum he h
theorem walk_T {K : PySem.W.Frag} {a : Addr} {k : Int} {xs : List V} : Walk (ItT K a k) xs.length (fun H => SqT K H a xs) (fun i H v H' => ∃ T x, v = .ref T ∧ H T = none ∧ H' = upd H T (.tup [.int (k + (i : Nat)), x]) ∧ xs[i]? = some x) where
  goes := fun i H hi h => ⟨xs, xs[i], h, by simp [hi]⟩
  stops := fun H h => ⟨xs, h, rfl⟩
  yields := fun i H x H' hi h y => let ⟨T, v, e1, e2, e3, e4⟩ := y; ⟨T, v, e1, e2, e3, e4 xs h⟩
theorem callWith_typeKw {M : Model} {A : Around} {E : Value → Shared → Prop} {s : Shared} {pos : Pos} {T : String} {first : List Value} {args : List (Bool × Sem Value)} {keywords : List (Option Str × Sem Value)} {Q : Value → Shared → Prop}
    (hplain : args.any (·.1) = false) (hkw : keywords.any (·.1.isNone) = false)
    (h : wpAny M A (evalArgs (.type T) true args keywords) (fun a s₁ => wpAny M A (call (.type T) (first ++ a.pos) a.kw) Q E s₁) E s) :
    wpAny M A (callWith pos (.type T) first args keywords) Q E s := by
  unfold callWith
  refine wpAny_bind (wpAny_holding (wpAny_mono h (fun a s₁ h₁ => wpAny_bind (wpAny_standAt ?_)) fun _ _ x => x))
  simp only [hplain, hkw, Bool.or_false]
  refine wpAny_bind (wpAny_pure ?_)
  exact wpAny_bind (wpAny_mono h₁ (fun r s₂ hr => wpAny_bind (wpAny_holding (wpAny_point (wpAny_pure hr)))) fun _ _ x => x)
/-- a list or a tuple -/
def EnCase (K : PySem.W.Frag) (a : Addr) (k : Int) (H : Hp) (R : It → Hp → Prop) : Prop := ((∃ xs, SqL K H a xs) ∧ R (ItL K a k) H) ∨ ((∃ xs, SqT K H a xs) ∧ R (ItT K a k) H)
def iEnS (K : PySem.W.Frag) (ta tk : TA) : TI := fun σ H R => ta σ H fun vs H1 => tk σ H1 fun zs H2 => ∃ (a : Addr) (k : Int), vs = [.ref a] ∧ zs = [.int k] ∧ -(2 ^ 63) ≤ k ∧ k < 2 ^ 63 ∧ EnCase K a k H2 R
theorem pi_enS {X : Cx} {e : Expr} {ta tk : TA} {p pos tpos : Pos} {elts : List Expr} {kk : Nat} {kws : List Keyword} (hg : Gl X "enumerate") (hm : X.mg "enumerate" = none) (ha : PA X [e] ta) (hkw : PK X kws tk) (hall : (backToKw pos (keywordEach kws X.env)).all (·.1.isSome) = true := by rfl)
    (hks : (backToKw pos (keywordEach kws X.env)).filterMap (·.1) = [(("start" : Str))] := by rfl) (he : starEach [e] X.env = (false, eval e X.env) :: starEach [] X.env := by rfl)
    (hpl : (backTo pos (starEach [e] X.env)).any (·.1) = false := by rfl) (hkn : (backToKw pos (keywordEach kws X.env)).any (·.1.isNone) = false := by rfl) :
    PI X (.Tuple elts kk tpos) (.Call (.Name "enumerate" p) [e] kws pos) (iEnS X.K ta tk) := by
  refine ⟨fun pins s σ H R I h => ?_⟩
  refine wpAny_Call_Name_kw (ld_blt I hg hm boot_enumerate ?_)
  refine callWith_typeKw hpl hkn ?_
  have run := ha.run pos pins s σ H _ I h
  obtain ⟨x, rest, hx⟩ : ∃ x rest, backTo pos (starEach [e] X.env) = (false, x) :: rest := ⟨_, _, by rw [he]; rfl⟩
  rw [hx] at run ⊢
  refine evalArgs_kwB hall (thn run fun us s1 ⟨vs, H1, I1, r1, q⟩ => ?_)
  refine thn (hkw.run pos pins s1 σ H1 _ I1 q) fun ws s2 ⟨zs, H2, I2, rz, a, k, ev, ez, k0, k1, q2⟩ => ?_
  rw [hks]
  subst ev ez
  cases r1 with
  | cons r rr =>
    cases rr
    cases r
    cases rz with
    | cons rk rr2 =>
      cases rr2
      obtain ⟨tk', rfl⟩ := rk
      show wpAny _ _ (call (.type "enumerate") [.ref a] [((("start" : Str)), .int k tk')]) _ _ _
      have hle : s2.heap.objs.size ≤ s2.heap.objs.size := Nat.le_refl _
      have fp : ∀ b, b = s2.heap.objs.size + 1 ∨ b = s2.heap.objs.size → FpOk X pins H2 b := fun b e' => by
        have hle : s2.heap.objs.size ≤ b := by
          rcases e' with z | z
          · rw [z]; exact Nat.le_add_right _ _
          · rw [z]; exact Nat.le_refl _
        exact I2.fpOk hle (I2.hok.fresh hle)
      rcases q2 with ⟨⟨xs, hq⟩, q2⟩ | ⟨⟨xs, hq⟩, q2⟩
      · obtain ⟨its, rv, p', hz⟩ := I2.list hq
        have ha : a < s2.heap.objs.size := by
          obtain ⟨o, ho, _⟩ := p'.isList
          exact Heap.lt_size ho
        refine enum_begins_start (begins_list a its.toArray) p'.isList k0 k1 fun h' hen hit hsz hk => wpAny_pyIter_enum hen ?_
        have I3 : Inv X pins σ H2 { s2 with heap := h' } := I2.kept (t' := s2.toks) hk
        exact ⟨s2.heap.objs.size + 1, [s2.heap.objs.size + 1, s2.heap.objs.size], _, _, H2, rfl, I3, turn_L k a (s2.heap.objs.size + 1) s2.heap.objs.size (Nat.ne_of_lt ha) (Nat.ne_of_gt (Nat.lt_succ_of_lt ha)) (Nat.succ_ne_self _), ⟨⟨.none, by rw [show k + ((0 : Nat) : Int) = k by omega]; exact hen⟩, ⟨_, hit, rfl, rfl⟩⟩, fun b hb => fp b (by simpa using hb), q2⟩
      · obtain ⟨its, rv, p', hz⟩ := I2.tuple hq
        have p2 : s2.heap.IsTuple a its.toArray := p'
        have ha : a < s2.heap.objs.size := by
          obtain ⟨o, ho, _⟩ := p2
          exact Heap.lt_size ho
        refine enum_begins_start (begins_tuple a its.toArray) p2 k0 k1 fun h' hen hit hsz hk => wpAny_pyIter_enum hen ?_
        have I3 : Inv X pins σ H2 { s2 with heap := h' } := I2.kept (t' := s2.toks) hk
        exact ⟨s2.heap.objs.size + 1, [s2.heap.objs.size + 1, s2.heap.objs.size], _, _, H2, rfl, I3, turn_T k a (s2.heap.objs.size + 1) s2.heap.objs.size (Nat.ne_of_lt ha) (Nat.ne_of_gt (Nat.lt_succ_of_lt ha)) (Nat.succ_ne_self _), ⟨⟨.none, by rw [show k + ((0 : Nat) : Int) = k by omega]; exact hen⟩, ⟨_, hit, rfl, rfl⟩⟩, fun b hb => fp b (by simpa using hb), q2⟩
/-- what such a walk gives at turn i -/
def YEn (k : Int) (xs : List V) : Nat → Hp → V → Hp → Prop := fun i H v H' => ∃ T x, v = .ref T ∧ H T = none ∧ H' = upd H T (.tup [.int (k + (i : Nat)), x]) ∧ xs[i]? = some x
theorem en_case {K : PySem.W.Frag} {H : Hp} {a : Addr} {k : Int} {xs : List V} {R : It → Hp → Prop} (h : SqL K H a xs ∨ SqT K H a xs) (c : ∀ (J : It) (G : Hp → Prop), Walk J xs.length G (YEn k xs) → (∀ H', Same H H' → G H') → R J H) :
    EnCase K a k H R := by
  rcases h with h | h
  · exact .inl ⟨⟨_, h⟩, c _ _ walk_L fun H' s => s.seq h⟩
  · exact .inr ⟨⟨_, h⟩, c _ _ walk_T fun H' s => Bx.Same.tup s h⟩
end En
/-! enumerate(t), t a tuple, walked. -/
namespace En
open PySem PySem.Spec PyProof.Rows L2 Bx TL Dx PySem.W
/-- the new enumerate object over an iterator at it, from 0 on -/
abbrev enO (it : Addr) : Obj := { cls := .type "enumerate", data := .fields #[.none, .bool false, .ref it, rawInt 0, .none, .none] }
set_option maxHeartbeats 1000000 in
theorem meets_one {v : Value} {o : Obj} {Hh : PySem.Heap → Prop} (B : Begins v o Hh) :
    Meets (Builtin.«enumerate.__new__» ⟨[.type "enumerate", v], []⟩) (fun _ R s => Hh s.heap ∧ R (.ok (.ret (.ref (s.heap.push o).objs.size))) { s with heap := (s.heap.push o).push (enO s.heap.objs.size) }) :=
  .of_wp fun prog w A R s hyp => by
    obtain ⟨hp, gn, dr, tk, os⟩ := s
    obtain ⟨h1, h2⟩ := hyp
    have hsub := sub_enumerate
    have walk1 : ∀ {A2 : Around} {E2 : Value → Shared → Prop} {Q2 : Value → Shared → Prop}, Q2 (.ref hp.objs.size) ⟨hp.push o, gn, dr, tk, os⟩ → wpAny (model prog w) A2 (pyIter v) Q2 E2 ⟨hp, gn, dr, tk, os⟩ := fun q2 => B.iter prog w _ _ ⟨hp, gn, dr, tk, os⟩ _ h1 q2
    have fin := h2
    wp_walk using walk1
    refine wpAny_stack_any fun stk => wpAny_pure ?_
    split
    · rename_i cx _ _ _ _ _
      cases (cx == Value.type "enumerate") <;> (wp_walk using walk1; exact ⟨_, rfl, fin⟩)
    · (wp_walk using walk1; exact ⟨_, rfl, fin⟩)
section
variable {P : Program} {w : World} {A : Around} {E : Value → Shared → Prop} {s : Shared}
theorem begins_one {v : Value} {o : Obj} {Hh : PySem.Heap → Prop} {Q : Value → Shared → Prop} (B : Begins v o Hh) (h1 : Hh s.heap)
    (hq : ∀ h2, IsEnum h2 (s.heap.objs.size + 1) s.heap.objs.size 0 .none → h2.get? s.heap.objs.size = some o → (∀ b u, s.heap.get? b = some u → h2.get? b = some u) → Q (.ref (s.heap.objs.size + 1)) { s with heap := h2 }) :
    wpAny (model P w) A (call (.type "enumerate") [v]) Q E s := by
  refine callType_new F.called_enumerate (by decide) (F.typeCall_enumerate_1 _) (F.newCall_enumerate_1 _) (fun ob => F.args_object_init_2 ob _) F.entry_enumerate_new (meets_one B) ⟨h1, ?_⟩
  have sz1 : (s.heap.push o).objs.size = s.heap.objs.size + 1 := Heap.size_push ..
  show _ ∧ _
  rw [sz1]
  have en : IsEnum ((s.heap.push o).push (enO s.heap.objs.size)) (s.heap.objs.size + 1) s.heap.objs.size 0 .none := by
    have z := Heap.get?_push_size (s.heap.push o) (o := enO s.heap.objs.size) rfl
    rwa [sz1] at z
  exact ⟨⟨_, en, rfl⟩, hq _ en (Heap.get?_push_of_some _ (Heap.get?_push_size _ B.free)) fun b u x => Heap.get?_push_of_some _ (Heap.get?_push_of_some _ x)⟩
end
def iEnT (K : PySem.W.Frag) (ta : TA) : TI := fun σ H R => ta σ H fun vs H1 => ∃ a xs, vs = [.ref a] ∧ SqT K H1 a xs ∧ R (ItT K a 0) H1
theorem pi_enT {X : Cx} {e : Expr} {ta : TA} {p pos tpos : Pos} {elts : List Expr} {kk : Nat} (hg : Gl X "enumerate") (hm : X.mg "enumerate" = none) (ha : PA X [e] ta) (hs : starEach [e] X.env = [(false, eval e X.env)] := by rfl) :
    PI X (.Tuple elts kk tpos) (.Call (.Name "enumerate" p) [e] [] pos) (iEnT X.K ta) := by
  refine ⟨fun pins s σ H R I h => ?_⟩
  refine Call_ (ld_blt I hg hm boot_enumerate (PyProof.Rows.callWith_type1 (thn (ha.run pos pins s σ H _ I h) fun us s1 ⟨vs, H1, I1, r1, q1⟩ => ?_) hs rfl))
  obtain ⟨a, xs, ex, hq, q⟩ := q1
  subst ex
  cases r1 with
  | cons r rr =>
    cases rr
    cases r
    obtain ⟨its, rv, pt, hz⟩ := I1.tuple hq
    have p2 : s1.heap.IsTuple a its.toArray := pt
    have hlt : a < s1.heap.objs.size := by
      obtain ⟨o, ho, _⟩ := p2
      exact Heap.lt_size ho
    refine begins_one (begins_tuple a its.toArray) p2 fun h2 hen hit hk => wpAny_pyIter_enum hen ?_
    have I2 : Inv X pins σ H1 { s1 with heap := h2 } := I1.kept (t' := s1.toks) hk
    refine ⟨s1.heap.objs.size + 1, [s1.heap.objs.size + 1, s1.heap.objs.size], _, _, H1, rfl, I2, turn_T 0 a (s1.heap.objs.size + 1) s1.heap.objs.size (Nat.ne_of_lt hlt) (Nat.ne_of_gt (Nat.lt_succ_of_lt hlt)) (Nat.succ_ne_self _), ⟨⟨.none, by rw [show (0 : Int) + ((0 : Nat) : Int) = 0 by omega]; exact hen⟩, ⟨_, hit, rfl, rfl⟩⟩, fun b hb => ?_, q⟩
    have hle : s1.heap.objs.size ≤ b := by
      rcases (show b = s1.heap.objs.size + 1 ∨ b = s1.heap.objs.size by simpa using hb) with z | z
      · rw [z]; exact Nat.le_add_right _ _
      · rw [z]; exact Nat.le_refl _
    exact I1.fpOk hle (I1.hok.fresh hle)
end En
namespace K12
local macro_rules | `(tactic| walk_at "rd") => `(tactic| repeat (first | refine ⟨rfl, ?_⟩ | refine ⟨_, rfl, ?_⟩ | refine ⟨_, _, rfl, rfl, ?_⟩ | refine ⟨⟨_, rfl⟩, ?_⟩))
open PySem PySem.Spec PyProof.Rows L2 Bx TL Dx Zx Ow Sup NdefX Px
theorem lit_lk {l : As} {c d : Cl} {n : Str} (hc : fl (l ++ [(n, 0)]) c = true) (hd : fl (l ++ [(n, 1)]) d = true) (hn : n ∉ l.map (·.1)) {x : Lit} (h : x ∈ lits c d n) : lk l x.1 = some (1 - x.2) := by
  have one : ∀ (e : Cl) (v : Int), fl (l ++ [(n, v)]) e = true → x ∈ e → x ≠ (n, 1 - v) → lk l x.1 = some (1 - x.2) := by
    intro e v he hx ne
    have z := fl_iff.mp he x hx
    have e1 : fl (l ++ [(n, v)]) [x] = true := fl_iff.mpr fun y hy => by rw [List.mem_singleton.mp hy]; exact z
    have e2 := fl_less e1 hn (fun m => ne (List.mem_singleton.mp m).symm)
    exact fl_iff.mp e2 x (List.mem_singleton.mpr rfl)
  rcases lits_mem.mp h with ⟨a, b⟩ | ⟨a, b⟩
  · exact one c 0 hc a (by simpa using b)
  · exact one d 1 hd a (by simpa using b)
theorem res_ok {l : As} {c d : Cl} {n : Str} (hc : fl (l ++ [(n, 0)]) c = true) (hd : fl (l ++ [(n, 1)]) d = true) (hn : n ∉ l.map (·.1)) : ∀ {o : Option Cl}, IsRes c d n o → ∃ e, o = some e ∧ fl l e = true
  | none, ⟨x, hx, y, hy, e, ne⟩ => by
    have z1 := lit_lk hc hd hn hx
    have z2 := lit_lk hc hd hn hy
    rw [← e, z1] at z2
    have z3 := Option.some.inj z2
    exact absurd (Prod.ext e (by omega)) ne
  | some e, h => ⟨e, rfl, fl_iff.mpr fun x hx => lit_lk hc hd hn ((h.1 x).mp hx)⟩
theorem put_line {cs : List Cl} {lns : List Ln} {bs : List Cl} {x : Ln} {c : Cl} (dv : Dv cs lns bs) (d : Der cs bs x (some c)) :
    (∀ u, valV (dcV lns 0) (lnK x) = some u → ∃ i : Nat, u = .int (i : Nat) ∧ bs[i]? = some c) ∧ Dv cs (lns ++ [x]) (bs ++ [c]) ∧ (bs ++ [c])[lns.length]? = some c := by
  refine ⟨fun u hu => ?_, dv_app dv d, ?_⟩
  · obtain ⟨i, h1, h2⟩ := dcV_at hu
    obtain ⟨e, h3, h4⟩ := dv_der dv h1
    have e2 := der_one h4 d
    cases e2
    exact ⟨i, by rw [h2, Nat.zero_add], h3⟩
  · rw [dv.1, List.getElem?_append_right (Nat.le_refl _), Nat.sub_self]
    rfl
theorem clAt_pre {bs bs2 : List Cl} (h : bs <+: bs2) {i : Nat} {c : Cl} (e : bs[i]? = some c) : clAt bs2 (i : Int) = some c := by
  obtain ⟨t, rfl⟩ := h
  obtain ⟨hi, _⟩ := List.getElem?_eq_some_iff.mp e
  unfold clAt
  rw [if_pos (by omega), Int.toNat_natCast, List.getElem?_append_left hi]
  exact e
section
variable {P : Program} {w : World} {K : PySem.W.Frag} {mg : Str → Option Value} {base : Heap}
theorem sqt_butD {H H' : Hp} {L a : Addr} {kvs : List (List Key × V)} {xs : List V} (hL : H L = some (.dT kvs)) (sb : SameBut L H H') (h : SqT K H a xs) : SqT K H' a xs := by
  rcases h with (h | ⟨u, h⟩) | h
  · exact .inl (.inl (sb _ _ (fun z => by rw [z, hL] at h; cases h) h))
  · exact .inl (.inr ⟨u, sb _ _ (fun z => by rw [z, hL] at h; cases h) h⟩)
  · exact .inr h
theorem tk_butD {H H' : Hp} {L : Addr} {kvs : List (List Key × V)} (hL : H L = some (.dT kvs)) (sb : SameBut L H H') : Tk K H H' := fun _ _ h => sqt_butD hL sb h
theorem tk_dT {H : Hp} {p : Addr} {kvs : List (List Key × V)} {o : HO} (hp : H p = some (.dT kvs)) : Tk K H (upd H p o) := fun a xs h => by
  rcases h with (h | ⟨u, h⟩) | h
  · exact .inl (.inl (by rw [upd_ne fun z => by rw [z, hp] at h; cases h]; exact h))
  · exact .inl (.inr ⟨u, by rw [upd_ne fun z => by rw [z, hp] at h; cases h]; exact h⟩)
  · exact .inr h
/-- lines for a clause that fails, fewer than k names undecided -/
def spRef (K : PySem.W.Frag) : Nat → Sp
  | 0 => fun _ _ _ _ => False
  | k + 1 => fun vs H Q _ => ∃ (na ca d L : Addr) (xs : List V) (ms ns : List Str) (cs bs : List Cl) (l : As) (lns : List Ln), vs = [.ref na, .ref ca, .ref d, .ref L] ∧ SqT K H na (ms.map V.str) ∧ ms.length ≤ k ∧ SqT K H ca xs ∧ DpAll K H xs (cs.map clD) ∧ (∀ c ∈ cs, Vc ns c) ∧ (∀ z ∈ ns, Tx 17 z) ∧ ns.length ≤ 20 ∧ cs.length ≤ 1000 ∧ H d = some (.dK (asV l)) ∧ (l.map (·.1) ++ ms).Nodup ∧ (l.length + ms.length ≤ 1000) ∧ (∀ z ∈ ms, PyData.strOk z = true) ∧ SolR cs l ms none ∧
    H L = some (.dT (dcV lns 0)) ∧ Dv cs lns bs ∧ lns.length + 2 ^ (k + 1) ≤ 10000 ∧
    ∀ (r b : Addr) (i : Nat) (c : Cl) (lns2 : List Ln) (bs2 : List Cl) (H' : Hp), SameBut L H H' → SqT K H' r [.int (i : Nat), .ref b] → Dp K H' (.ref b) (clD c) → H' L = some (.dT (dcV lns2 0)) → Dv cs lns2 bs2 → lns <+: lns2 → bs <+: bs2 → bs2[i]? = some c → fl l c = true → lns2.length + 1 ≤ lns.length + 2 ^ (k + 1) → Q (.ref r) H'
set_option maxHeartbeats 4000000 in
theorem ok_refute {f : Addr} {fd : FuncData} (F : Fun K "_refute" "_refute" s__refute f fd) (m_enumerate : mg "enumerate" = none) (m_len : mg "len" = none) (C__fails : Cal P w K mg base "_fails" 1 ["clause", "decided"] (spFails K)) (C_resolvent : Cal P w K mg base "resolvent" 1 ["first", "second", "name"] (spRes K)) (gS : mg "_refute" = some (.ref f)) (kS : PySem.W.keepIn K (.ref f) = true) (bS : Binds K fd ["names", "clauses", "decided", "lines"] []) : ∀ k : Nat, FnOk P w K mg base CX0 (k + 1) f fd ["names", "clauses", "decided", "lines"] (spRef K k)
  | 0 => F.ok sc__refute (fun vs H Q E h => h.elim) (fun cdv A outer s H vs Q E hr h => h.elim)
  | k + 1 => by
    have C__refute : Cal P w K mg base "_refute" (k + 1) ["names", "clauses", "decided", "lines"] (spRef K k) := ⟨_, _, ok_refute F m_enumerate m_len C__fails C_resolvent gS kS bS k, gS, kS, bS⟩
    refine F.ok sc__refute (fun vs H Q E h => ?_) (fun cdv A outer s H vs Q E hr h => ?_)
    · obtain ⟨na, ca, d, L, xs, ms, ns, cs, bs, l, lns, rfl, _⟩ := h
      rfl
    · obtain ⟨na, ca, d, L, xs, ms, ns, cs, bs, l, lns, rfl, hn, hk, hc, hd, vc, tx, nl, ll, hdic, nd, lm, okm, sol, hL, dv, bd, q⟩ := h
      have hu := hu_of hr
      have xl : xs.length = cs.length := by rw [da_len hd, List.length_map]
      have p2 : 2 ≤ 2 ^ (k + 1) := by
        have z : 0 < 2 ^ k := Nat.pos_of_ne_zero (by simp)
        rw [Nat.pow_succ]
        omega
      refine ⟨_, (pss_cons (ps_for PassesOwn.never rfl (En.pi_enT (by rfl) m_enumerate (pa_cons (pv 1) pa_nil)) (pg_tup rfl (pgs_cons (pg_name (i := 5) sc__refute.nd rfl (Or.inl rfl)) (pgs_cons (pg_name (i := 6) sc__refute.nd rfl (Or.inl rfl)) pgs_nil)))
      (pss_one (ps_if (pt_val (pe_cal C__fails (hr.mono (by omega)) (pa_cons (pv 6) (pa_cons (pv 2) pa_nil))))
      (pss_one (ps_ret (pe_tup (pa_cons (pe_bm PySem.F.plainAttrs_dict PySem.F.slot_dict_setdefault PySem.F.type_dict_setdefault (Nx.mt_setdT hu) (pv 3) (pa_cons (pe_tup (pa_cons pe_str (pa_cons (pv 5) pa_nil))) (pa_cons (pe_callB call_len_dT (by rfl) m_len PySem.boot_len (pa_cons (pv 3) pa_nil)) pa_nil))) (pa_cons (pv 6) pa_nil)))))
      pss_nil)))
    (pss_cons (ps_set (i := 4) sc__refute.nd rfl (Or.inl rfl) (pe_ix ix_tup (pv 0) pe_int (fun _ _ => rfl)))
    (pss_cons (ps_asg (pe_cal C__refute (hr.mono (by omega)) (pa_cons (pe_slice sl_tupA (pv 0) (po_some pe_int) po_none) (pa_cons (pv 1) (pa_cons (Dd.pe_dstar (pv 2) (pv 4) pe_int) (pa_cons (pv 3) pa_nil))))) (pg_tup rfl (pgs_cons (pg_name (i := 7) sc__refute.nd rfl (Or.inl rfl)) (pgs_cons (pg_name (i := 8) sc__refute.nd rfl (Or.inl rfl)) pgs_nil))))
    (pss_cons (ps_if (pt_cmpR (Sl.op_notInT (K := K) rfl (room hr)) (pe_tup (pa_cons (pv 4) (pa_cons pe_int pa_nil))) (pv 8) (by rfl))
      (pss_one (ps_ret (pe_tup (pa_cons (pv 7) (pa_cons (pv 8) pa_nil)))))
      pss_nil)
    (pss_cons (ps_asg (pe_cal C__refute (hr.mono (by omega)) (pa_cons (pe_slice sl_tupA (pv 0) (po_some pe_int) po_none) (pa_cons (pv 1) (pa_cons (Dd.pe_dstar (pv 2) (pv 4) pe_int) (pa_cons (pv 3) pa_nil))))) (pg_tup rfl (pgs_cons (pg_name (i := 9) sc__refute.nd rfl (Or.inl rfl)) (pgs_cons (pg_name (i := 10) sc__refute.nd rfl (Or.inl rfl)) pgs_nil))))
    (pss_cons (ps_if (pt_cmpR (Sl.op_notInT (K := K) rfl (room hr)) (pe_tup (pa_cons (pv 4) (pa_cons pe_int pa_nil))) (pv 10) (by rfl))
      (pss_one (ps_ret (pe_tup (pa_cons (pv 9) (pa_cons (pv 10) pa_nil)))))
      pss_nil)
    (pss_one (ps_ret (pe_tup (pa_cons (pe_bm PySem.F.plainAttrs_dict PySem.F.slot_dict_setdefault PySem.F.type_dict_setdefault (Nx.mt_setdT hu) (pv 3) (pa_cons (pe_tup (pa_cons pe_str (pa_cons (pv 7) (pa_cons (pv 9) (pa_cons (pv 4) pa_nil))))) (pa_cons (pe_callB call_len_dT (by rfl) m_len PySem.boot_len (pa_cons (pv 3) pa_nil)) pa_nil))) (pa_cons (pe_cal C_resolvent (hr.mono (by omega)) (pa_cons (pv 8) (pa_cons (pv 10) (pa_cons (pv 4) pa_nil)))) pa_nil))))))))))), ?_⟩
      walk_at "rd"
      refine ⟨ca, xs, rfl, hc, ?_⟩
      refine for_it En.walk_T (fun i σ H' => ∃ (o5 o6 : Option V), σ = [some (.ref na), some (.ref ca), some (.ref d), some (.ref L), none, o5, o6, none, none, none, none] ∧ Same H H' ∧ ∀ c ∈ cs.take i, fl l c = false) ⟨none, none, rfl, Same.refl H, fun c hc => (by simp at hc)⟩ (fun i σ H' _ ⟨_, _, _, s, _⟩ => Bx.Same.tup s hc) ?_ ?_
      · rintro i x σ H1 H2 hi ⟨o5, o6, rfl, s1, no⟩ ⟨T, y, rfl, nT, rfl, hy⟩
        have s2 := s1.trans (same_new nT (o := .tup [.int (0 + (i : Nat)), y]))
        have hT := upd_same (H := H1) (a := T) (o := .tup [.int (0 + (i : Nat)), y])
        generalize upd H1 T (.tup [.int (0 + (i : Nat)), y]) = H2 at s2 hT ⊢
        obtain ⟨c, hc1, dc⟩ := da_atM hd hy
        obtain ⟨b, zs, rfl, hb, _⟩ := dp_tup dc
        have ok1 := vc c (List.mem_of_getElem? hc1)
        obtain ⟨okc, lc20⟩ := vc_ok tx nl ok1
        refine ⟨T, _, rfl, sqt hT, rfl, _, _, rfl, _, _, rfl, rfl, ?_⟩
        walk_at "rd"
        show spFails K _ _ _ _
        unfold spFails
        refine ⟨b, d, c, l, rfl, dp_same s2 dc, s2 _ _ hdic, by omega, fun H3 s3 => ?_⟩
        have s03 := s2.trans s3
        cases hf : fl l c with
        | false =>
          walk_at "rd"
          refine ⟨_, _, rfl, s03, fun e he => ?_⟩
          rw [List.take_add_one, hc1] at he
          rcases List.mem_append.mp he with h | h
          · exact no e h
          · rw [List.mem_singleton.mp h]
            exact hf
        | true =>
          have hL3 := s03 _ _ hL
          have der : Der cs bs (.giv (0 + (i : Nat))) (some c) := by
            show some c = clAt cs (0 + (i : Nat))
            unfold clAt
            rw [if_pos (by omega), Int.zero_add, Int.toNat_natCast]
            exact hc1.symm
          obtain ⟨pl1, pl2, pl3⟩ := put_line dv der
          walk_at "rd"
          refine ⟨.inr (.inr (.inl ⟨rfl, .inr ⟨_, hL3⟩⟩)), ?_⟩
          walk_at "rd"
          refine ⟨sz (by show 2 ≤ 100000; decide), fun U nU => ?_⟩
          have sU := same_new nU (o := .tup [.str (Str.ofString "given"), .int (0 + (i : Nat))])
          have hU := upd_same (H := H3) (a := U) (o := .tup [.str (Str.ofString "given"), .int (0 + (i : Nat))])
          generalize upd H3 U (.tup [.str (Str.ofString "given"), .int (0 + (i : Nat))]) = H4 at sU hU ⊢
          have s04 := s03.trans sU
          have hL4 := sU _ _ hL3
          walk_at "rd"
          refine ⟨L, _, rfl, hL4, ?_⟩
          rw [dcV_len]
          have d4 := dp_same s04 dc
          refine ⟨L, U, dcV lns 0, lnK (.giv (0 + (i : Nat))), _, rfl, rfl, hL4, hU, by rw [dcV_len]; exact szl (by omega), fun u hu2 => ?_, fun hno => ?_⟩
          · obtain ⟨j, rfl, hj⟩ := pl1 u hu2
            walk_at "rd"
            refine ⟨sz (by show 2 ≤ 100000; decide), fun r nr => ?_⟩
            have sr := same_new nr (o := .tup [.int (j : Nat), .ref b])
            exact q r b j c lns bs _ (Bx.Same.but (s04.trans sr)) (sqt upd_same) (dp_same sr d4) (sr _ _ hL4) dv (List.prefix_refl _) (List.prefix_refl _) hj hf (by omega)
          · rw [dcV_put hno]
            have tk := tk_dT (K := K) (o := .dT (dcV (lns ++ [.giv (0 + (i : Nat))]) 0)) hL4
            have d5 := dp_tk tk _ _ (show tupD (clD c) = true from tup_lits c) d4
            have s5 : SameBut L H (upd H4 L (.dT (dcV (lns ++ [.giv (0 + (i : Nat))]) 0))) := (Bx.Same.but s04).trans SameBut.upd
            have hL5 := upd_same (H := H4) (a := L) (o := .dT (dcV (lns ++ [.giv (0 + (i : Nat))]) 0))
            generalize upd H4 L (.dT (dcV (lns ++ [.giv (0 + (i : Nat))]) 0)) = H5 at s5 hL5 d5 ⊢
            walk_at "rd"
            refine ⟨sz (by show 2 ≤ 100000; decide), fun r nr => ?_⟩
            have sr := same_new nr (o := .tup [.int (lns.length : Nat), .ref b])
            refine q r b lns.length c _ _ _ (s5.trans (Bx.Same.but sr)) (sqt upd_same) (dp_same sr d5) (sr _ _ hL5) pl2 (List.prefix_append _ _) (List.prefix_append _ _) pl3 hf ?_
            rw [List.length_append]
            show lns.length + 1 + 1 ≤ lns.length + 2 ^ (k + 1)
            omega
      rintro σ H1 ⟨o5, o6, rfl, s1, no⟩
      rw [xl, List.take_length] at no
      match ms, hn, hk, nd, lm, okm, sol with
      | [], hn, hk, nd, lm, okm, sol =>
        obtain ⟨c, h1, h2⟩ := sol_nil sol
        rw [no c h1] at h2
        cases h2
      | n :: ms, hn, hk, nd, lm, okm, sol =>
        obtain ⟨k, rfl⟩ : ∃ j, k = j + 1 := ⟨k - 1, by rw [List.length_cons] at hk; omega⟩
        have nin : n ∉ l.map (·.1) := fun m => by
          rw [List.nodup_append] at nd
          exact nd.2.2 n m n (List.mem_cons_self ..) rfl
        have lm2 : l.length + (ms.length + 1) ≤ 1000 := lm
        have hk2 : ms.length + 1 ≤ k + 1 := hk
        have pw : 2 ^ (k + 1 + 1) = 2 ^ (k + 1) + 2 ^ (k + 1) := by rw [Nat.pow_succ]; omega
        have okn := okm n (List.mem_cons_self ..)
        have dL : d ≠ L := fun e => by rw [e, hL] at hdic; cases hdic
        have hL1 := s1 _ _ hL
        have hn1 := Bx.Same.tup s1 hn
        walk_at "rd"
        refine ⟨_, _, _, _, rfl, rfl, hn1, atI_nat (j := 0) rfl, ?_⟩
        walk_at "rd"
        -- the first half
        refine ⟨na, _, rfl, hn1, fun h => absurd h (not_whole _ _), fun _ tl ntl => ?_⟩
        have stl := same_new ntl (o := .tup (cutV ((n :: ms).map V.str) (some 1) none))
        have htl : (upd H1 tl (.tup (cutV ((n :: ms).map V.str) (some 1) none))) tl = some (.tup (ms.map V.str)) := by
          rw [upd_same, List.map_cons, cut_tail]
        generalize upd H1 tl (.tup (cutV ((n :: ms).map V.str) (some 1) none)) = H2 at stl htl ⊢
        have s02 := s1.trans stl
        walk_at "rd"
        refine fun p np => ?_
        have nap : d ≠ p := fun e => by rw [← e, s02 _ _ hdic] at np; cases np
        walk_at "rd"
        refine ⟨d, asV l, rfl, (by rw [upd_ne nap]; exact s02 _ _ hdic), nap, upd_same, (by rw [show (asV l).length = l.length from List.length_map _]; exact sz (by omega)), fun p2 np2 => ?_⟩
        have n12 : p2 ≠ p := fun e => by rw [e, upd_same] at np2; cases np2
        walk_at "rd"
        refine ⟨.inr n, .int 0, rfl, by rw [upd_ne (Ne.symm n12), upd_same], upd_same, ?_⟩
        obtain ⟨s23, hp3⟩ := star_heap (k := .inr n) (z := .int 0) (r := putK (asV l) (.inr n) (.int 0)) np np2
        rw [put_as nin] at s23 hp3 ⊢
        generalize upd (upd (upd (upd (upd H2 p (.dK [])) p (.dK (asV l))) p2 (.dK [])) p2 (.dK [(.inr n, .int 0)])) p (.dK (asV (l ++ [(n, 0)]))) = H3 at s23 hp3 ⊢
        have s03 := s02.trans s23
        have hL3 := s03 _ _ hL
        walk_at "rd"
        refine ⟨tl, ca, p, L, xs, ms, ns, cs, bs, l ++ [(n, 0)], lns, rfl, sqt (s23 _ _ htl), by omega, Bx.Same.tup s03 hc, dpAll_same s03 hd, vc, tx, nl, ll, hp3, ?_, ?_, fun z hz => okm z (List.mem_cons_of_mem _ hz), sol_step sol (.inl rfl), hL3, dv, by omega, fun r1 b1 i1 c1 lns1 bs1 H4 s4 hr1 d1 hL4 dv1 pre1 prb1 at1 fl1 len1 => ?_⟩
        · rw [List.map_append, List.append_assoc]
          exact nd
        · rw [List.length_append]
          show l.length + 1 + ms.length ≤ 1000
          omega
        have s04 : SameBut L H H4 := (Bx.Same.but s03).trans s4
        have vc1 := dv_vc vc dv1 i1 c1 at1
        obtain ⟨okc1, lc1⟩ := vc_ok tx nl vc1
        walk_at "rd"
        refine ⟨r1, _, rfl, hr1, rfl, _, _, rfl, _, _, rfl, rfl, ?_⟩
        walk_at "rd"
        refine ⟨sz (by show 2 ≤ 100000; decide), fun T1 nT1 => ?_⟩
        have sT1 := same_new nT1 (o := .tup [.str n, .int 1])
        have hT1 := upd_same (H := H4) (a := T1) (o := .tup [.str n, .int 1])
        generalize upd H4 T1 (.tup [.str n, .int 1]) = H5 at sT1 hT1 ⊢
        have s05 := s04.trans (Bx.Same.but sT1)
        have d15 := dp_same sT1 d1
        have hL5 := sT1 _ _ hL4
        walk_at "rd"
        refine ⟨litD (n, 1), c1.map litD, dp_lit (sqt hT1), d15, sh_lit (l := (n, 1)) okn, sh_cl okc1, ?_⟩
        rw [any_lit]
        by_cases m1 : (n, (1 : Int)) ∈ c1
        case neg =>
          rw [decide_eq_false m1]
          walk_at "rd"
          refine ⟨sz (by show 2 ≤ 100000; decide), fun r nr => ?_⟩
          have sr := same_new nr (o := .tup [.int (i1 : Nat), .ref b1])
          exact q r b1 i1 c1 lns1 bs1 _ (s05.trans (Bx.Same.but sr)) (sqt upd_same) (dp_same sr d15) (sr _ _ hL5) dv1 pre1 prb1 at1 (fl_less fl1 nin (by simpa using m1)) (by omega)
        rw [decide_eq_true m1]
        walk_at "rd"
        -- the second half
        have tk5 := tk_butD (K := K) hL s05
        have hn5 := tk5 _ _ hn
        refine ⟨na, _, rfl, hn5, fun h => absurd h (not_whole _ _), fun _ tl2 ntl2 => ?_⟩
        have stl2 := same_new ntl2 (o := .tup (cutV ((n :: ms).map V.str) (some 1) none))
        have htl2 : (upd H5 tl2 (.tup (cutV ((n :: ms).map V.str) (some 1) none))) tl2 = some (.tup (ms.map V.str)) := by
          rw [upd_same, List.map_cons, cut_tail]
        generalize upd H5 tl2 (.tup (cutV ((n :: ms).map V.str) (some 1) none)) = H6 at stl2 htl2 ⊢
        have hd6 : H6 d = some (.dK (asV l)) := stl2 _ _ (s05 _ _ dL hdic)
        walk_at "rd"
        refine fun p3 np3 => ?_
        have nap3 : d ≠ p3 := fun e => by rw [← e, hd6] at np3; cases np3
        walk_at "rd"
        refine ⟨d, asV l, rfl, (by rw [upd_ne nap3]; exact hd6), nap3, upd_same, (by rw [show (asV l).length = l.length from List.length_map _]; exact sz (by omega)), fun p4 np4 => ?_⟩
        have n34 : p4 ≠ p3 := fun e => by rw [e, upd_same] at np4; cases np4
        walk_at "rd"
        refine ⟨.inr n, .int 1, rfl, by rw [upd_ne (Ne.symm n34), upd_same], upd_same, ?_⟩
        obtain ⟨s67, hp7⟩ := star_heap (k := .inr n) (z := .int 1) (r := putK (asV l) (.inr n) (.int 1)) np3 np4
        rw [put_as nin] at s67 hp7 ⊢
        generalize upd (upd (upd (upd (upd H6 p3 (.dK [])) p3 (.dK (asV l))) p4 (.dK [])) p4 (.dK [(.inr n, .int 1)])) p3 (.dK (asV (l ++ [(n, 1)]))) = H7 at s67 hp7 ⊢
        have s57 := stl2.trans s67
        have s07 := s05.trans (Bx.Same.but s57)
        have hL7 := s57 _ _ hL5
        have tk7 := tk_butD (K := K) hL s07
        walk_at "rd"
        refine ⟨tl2, ca, p3, L, xs, ms, ns, cs, bs1, l ++ [(n, 1)], lns1, rfl, sqt (s67 _ _ htl2), by omega, tk7 _ _ hc, da_tk tk7 _ _ (tup_cls cs) hd, vc, tx, nl, ll, hp7, ?_, ?_, fun z hz => okm z (List.mem_cons_of_mem _ hz), sol_step sol (.inr rfl), hL7, dv1, by omega, fun r2 b2 i2 c2 lns2 bs2 H8 s8 hr2 d2 hL8 dv2 pre2 prb2 at2 fl2 len2 => ?_⟩
        · rw [List.map_append, List.append_assoc]
          exact nd
        · rw [List.length_append]
          show l.length + 1 + ms.length ≤ 1000
          omega
        have s08 := s07.trans s8
        have vc2 := dv_vc vc dv2 i2 c2 at2
        obtain ⟨okc2, lc2⟩ := vc_ok tx nl vc2
        have d18 := dp_tk (tk_butD (K := K) hL7 s8) _ _ (show tupD (clD c1) = true from tup_lits c1) (dp_same s57 d15)
        walk_at "rd"
        refine ⟨r2, _, rfl, hr2, rfl, _, _, rfl, _, _, rfl, rfl, ?_⟩
        walk_at "rd"
        refine ⟨sz (by show 2 ≤ 100000; decide), fun T2 nT2 => ?_⟩
        have sT2 := same_new nT2 (o := .tup [.str n, .int 0])
        have hT2 := upd_same (H := H8) (a := T2) (o := .tup [.str n, .int 0])
        generalize upd H8 T2 (.tup [.str n, .int 0]) = H9 at sT2 hT2 ⊢
        have s09 := s08.trans (Bx.Same.but sT2)
        have d29 := dp_same sT2 d2
        have d19 := dp_same sT2 d18
        have hL9 := sT2 _ _ hL8
        walk_at "rd"
        refine ⟨litD (n, 0), c2.map litD, dp_lit (sqt hT2), d29, sh_lit (l := (n, 0)) okn, sh_cl okc2, ?_⟩
        rw [any_lit]
        by_cases m2 : (n, (0 : Int)) ∈ c2
        case neg =>
          rw [decide_eq_false m2]
          walk_at "rd"
          refine ⟨sz (by show 2 ≤ 100000; decide), fun r nr => ?_⟩
          have sr := same_new nr (o := .tup [.int (i2 : Nat), .ref b2])
          exact q r b2 i2 c2 lns2 bs2 _ (s09.trans (Bx.Same.but sr)) (sqt upd_same) (dp_same sr d29) (sr _ _ hL9) dv2 (pre1.trans pre2) (prb1.trans prb2) at2 (fl_less fl2 nin (by simpa using m2)) (by omega)
        rw [decide_eq_true m2]
        -- the cut
        have hder : ∀ e, IsRes c1 c2 n (some e) → Der cs bs2 (.cut (i1 : Nat) (i2 : Nat) n) (some e) := fun e he => by
          show (match clAt bs2 (i1 : Nat), clAt bs2 (i2 : Nat) with | some c, some d => if (n, (1 : Int)) ∈ c ∧ (n, (0 : Int)) ∈ d then IsRes c d n (some e) else some e = none | _, _ => some e = none)
          rw [clAt_pre prb2 at1, clAt_pre (List.prefix_refl _) at2]
          show if (n, (1 : Int)) ∈ c1 ∧ (n, (0 : Int)) ∈ c2 then IsRes c1 c2 n (some e) else some e = none
          rw [if_pos ⟨m1, m2⟩]
          exact he
        walk_at "rd"
        refine ⟨.inr (.inr (.inl ⟨rfl, .inr ⟨_, hL9⟩⟩)), ?_⟩
        walk_at "rd"
        refine ⟨sz (by show 4 ≤ 100000; decide), fun U nU => ?_⟩
        have sU := same_new nU (o := .tup [.str (Str.ofString "cut"), .int (i1 : Nat), .int (i2 : Nat), .str n])
        have hU := upd_same (H := H9) (a := U) (o := .tup [.str (Str.ofString "cut"), .int (i1 : Nat), .int (i2 : Nat), .str n])
        generalize upd H9 U (.tup [.str (Str.ofString "cut"), .int (i1 : Nat), .int (i2 : Nat), .str n]) = H10 at sU hU ⊢
        have hL10 := sU _ _ hL9
        have d110 := dp_same sU d19
        have d210 := dp_same sU d29
        have s010 := s09.trans (Bx.Same.but sU)
        walk_at "rd"
        refine ⟨L, _, rfl, hL10, ?_⟩
        rw [dcV_len]
        refine ⟨L, U, dcV lns2 0, lnK (.cut (i1 : Nat) (i2 : Nat) n), _, rfl, rfl, hL10, hU, by rw [dcV_len]; exact szl (by omega), fun u hu2 => ?_, fun hno => ?_⟩
        · walk_at "rd"
          show spRes K _ _ _ _
          unfold spRes
          refine ⟨b1, b2, c1, c2, n, rfl, d110, d210, okc1, okc2, okn, lc1, lc2, fun v o H11 s11 hres hov => ?_⟩
          obtain ⟨e, rfl, fe⟩ := res_ok fl1 fl2 nin hres
          obtain ⟨pl1, pl2, pl3⟩ := put_line dv2 (hder e hres)
          obtain ⟨j, rfl, hj⟩ := pl1 u hu2
          have de : Dp K H11 v (clD e) := hov
          obtain ⟨be, ze, rfl, _⟩ := dp_tup de
          refine ⟨sz (by show 2 ≤ 100000; decide), fun r nr => ?_⟩
          have sr := same_new nr (o := .tup [.int (j : Nat), .ref be])
          exact q r be j e lns2 bs2 _ (s010.trans (Bx.Same.but (s11.trans sr))) (sqt upd_same) (dp_same sr de) (sr _ _ (s11 _ _ hL10)) dv2 (pre1.trans pre2) (prb1.trans prb2) hj fe (by omega)
        · rw [dcV_put hno]
          have tk := tk_dT (K := K) (o := .dT (dcV (lns2 ++ [.cut (i1 : Nat) (i2 : Nat) n]) 0)) hL10
          have d111 := dp_tk tk _ _ (show tupD (clD c1) = true from tup_lits c1) d110
          have d211 := dp_tk tk _ _ (show tupD (clD c2) = true from tup_lits c2) d210
          have s011 : SameBut L H (upd H10 L (.dT (dcV (lns2 ++ [.cut (i1 : Nat) (i2 : Nat) n]) 0))) := s010.trans SameBut.upd
          have hL11 := upd_same (H := H10) (a := L) (o := .dT (dcV (lns2 ++ [.cut (i1 : Nat) (i2 : Nat) n]) 0))
          generalize upd H10 L (.dT (dcV (lns2 ++ [.cut (i1 : Nat) (i2 : Nat) n]) 0)) = H11 at s011 hL11 d111 d211 ⊢
          walk_at "rd"
          show spRes K _ _ _ _
          unfold spRes
          refine ⟨b1, b2, c1, c2, n, rfl, d111, d211, okc1, okc2, okn, lc1, lc2, fun v o H12 s12 hres hov => ?_⟩
          obtain ⟨e, rfl, fe⟩ := res_ok fl1 fl2 nin hres
          obtain ⟨pl1, pl2, pl3⟩ := put_line dv2 (hder e hres)
          have de : Dp K H12 v (clD e) := hov
          obtain ⟨be, ze, rfl, _⟩ := dp_tup de
          refine ⟨sz (by show 2 ≤ 100000; decide), fun r nr => ?_⟩
          have sr := same_new nr (o := .tup [.int (lns2.length : Nat), .ref be])
          refine q r be lns2.length e _ _ _ (s011.trans (Bx.Same.but (s12.trans sr))) (sqt upd_same) (dp_same sr de) (sr _ _ (s12 _ _ hL11)) pl2 ((pre1.trans pre2).trans (List.prefix_append _ _)) ((prb1.trans prb2).trans (List.prefix_append _ _)) pl3 fe ?_
          rw [List.length_append]
          show lns2.length + 1 + 1 ≤ lns.length + 2 ^ (k + 1 + 1)
          omega
end
end K12
namespace K12
local macro_rules | `(tactic| walk_at "rd") => `(tactic| repeat (first | refine ⟨rfl, ?_⟩ | refine ⟨_, rfl, ?_⟩ | refine ⟨_, _, rfl, rfl, ?_⟩ | refine ⟨⟨_, rfl⟩, ?_⟩))
open PySem PySem.Spec PyProof.Rows L2 Bx TL Dx Zx Ow Sup NdefX Px
/-- the values under which a clause fails -/
def neg (c : Cl) : As := c.map fun x => (x.1, 1 - x.2)
theorem neg_fst (c : Cl) : (neg c).map (·.1) = c.map (·.1) := by
  unfold neg
  rw [List.map_map]
  rfl
theorem vc_nodup {ns : List Str} {c : Cl} (v : Vc ns c) : (c.map (·.1)).Nodup := List.pairwise_map.mpr (v.1.imp fun {a b} (z : a.1.cps.toList < b.1.cps.toList) (e : a.1 = b.1) => List.lt_irrefl b.1.cps.toList (by rw [e] at z; exact z))
theorem und_mem {ns : List Str} {c : Cl} {z : Str} : z ∈ und ns c ↔ z ∈ ns ∧ z ∉ c.map (·.1) := by
  unfold und
  rw [List.mem_filter, Bool.not_eq_true', decide_eq_false_iff_not]
theorem neg_nodup {ns : List Str} {c : Cl} (v : Vc ns c) (nd : ns.Nodup) : ((neg c).map (·.1) ++ und ns c).Nodup := by
  rw [neg_fst, List.nodup_append]
  exact ⟨vc_nodup v, nd.filter _, fun a ha b hb e => (und_mem.mp hb).2 (e ▸ ha)⟩
section
variable {P : Program} {w : World} {K : PySem.W.Frag} {mg : Str → Option Value} {base : Heap}
@[irreducible] def spCE (K : PySem.W.Frag) : Sp := fun vs H Q _ => ∃ (a T na ca p : Addr) (xs : List V) (ns : List Str) (cs : List Cl) (c : Cl), vs = [.ref a, .ref T, .ref p] ∧ Th K H T na ca xs ns cs ∧ (∀ d ∈ cs, Vc ns d) ∧ ns.Nodup ∧ (∀ z ∈ ns, Tx 17 z) ∧ ns.length ≤ 5 ∧ cs.length ≤ 1000 ∧ Dp K H (.ref p) (clD c) ∧ Vc ns c ∧
  ∀ v o H', Same H H' → SolR cs (neg c) (und ns c) o → AD H' v o → Q v H'
theorem dc_neg {H : Hp} {p : Addr} {xs : List V} {c : Cl} {ns : List Str} (vc : Vc ns c) (hl : c.length ≤ 20) : ∀ i < c.length, ∀ x, c[i]? = some x → putK (asV (neg (c.take i))) (.inr x.1) (.int (1 - x.2)) = asV (neg (c.take (i + 1))) := by
  intro i hi x hx
  rw [put_as]
  · congr 1
    unfold neg
    rw [List.take_add_one, hx, List.map_append]
    rfl
  · rw [neg_fst]
    intro m
    have nd := vc_nodup vc
    obtain ⟨y, hy, e⟩ := List.mem_map.mp m
    obtain ⟨j, hj, e2⟩ := List.getElem_of_mem hy
    rw [List.length_take] at hj
    rw [List.getElem_take] at e2
    obtain ⟨h1, e3⟩ := List.getElem?_eq_some_iff.mp hx
    have hj2 : j < c.length := by omega
    have e4 : (c.map (·.1))[j]'(by rw [List.length_map]; exact hj2) = (c.map (·.1))[i]'(by rw [List.length_map]; exact h1) := by
      rw [List.getElem_map, List.getElem_map, e2, e3]
      exact e
    have := (List.getElem_inj nd).mp e4
    omega
theorem ok_counterexample {f : Addr} {fd : FuncData} (F : Fun K "counterexample" "Bits.counterexample" s_Bits_counterexample f fd) (C__undecided : Cal P w K mg base "_undecided" 1 ["theory", "constraint"] (spUnd K)) (C__solution : Cal P w K mg base "_solution" 7 ["names", "clauses", "decided"] (spSol K 6)) : FnOk P w K mg base CX0 8 f fd ["self", "theory", "constraint"] (spCE K) := by
  refine F.ok sc_Bits_counterexample (fun vs H Q E h => ?_) (fun cdv A outer s H vs Q E hr h => ?_)
  · unfold spCE at h
    obtain ⟨a, T, na, ca, p, xs, ns, cs, c, rfl, _⟩ := h
    rfl
  · unfold spCE at h
    obtain ⟨a, T, na, ca, p, xs, ns, cs, c, rfl, th, vcs, nd, tx, nl, ll, hp, vc, q⟩ := h
    have lc := (vc_ok tx (by omega) vc).2
    refine ⟨_, (pss_cons (ps_setDc (i := 3) (own := [("name", 4), ("sign", 5)]) (tt := tYes) rfl sc_Bits_counterexample.nd rfl rfl (sw_trueD rfl rfl rfl (by decide +kernel)) (pi_tup (pv 2)) (blkOk_by (N := n_Bits_counterexample) (sc := defScope s_Bits_counterexample) (by decide +kernel)) (fun _ _ _ _ _ => pg_tupK (K := K) (n := 2) rfl rfl (pgs_cons (pg_name (i := 4) sc_Bits_counterexample.nd rfl (Or.inl rfl)) (pgs_cons (pg_name (i := 5) sc_Bits_counterexample.nd rfl (Or.inl rfl)) pgs_nil))) (fun _ _ _ _ _ => pts_nil) (fun _ _ _ _ _ => (pv 4)) (fun _ _ _ _ _ => (pe_op op_sub pe_int (pv 5))))
    (pss_one (ps_ret (pe_cal C__solution (hr.mono (by decide)) (pa_cons (pe_cal C__undecided (hr.mono (by decide)) (pa_cons (pv 1) (pa_cons (pv 2) pa_nil))) (pa_cons (pe_ix ix_tup (pv 1) pe_int (fun _ _ => rfl)) (pa_cons (pv 3) pa_nil))))))), ?_⟩
    walk_at "rd"
    obtain ⟨p', ys, ep, ht, ha⟩ := dp_tup hp
    cases ep
    have yl : ys.length = c.length := by rw [da_len ha, List.length_map]
    refine ⟨⟨_, ht⟩, fun D hD => ?_⟩
    refine walk_any walk_tup (fun i H' => Same H H' ∧ H' D = some (.dK (asV (neg (c.take i))))) ⟨same_new hD, upd_same⟩ (fun i H' _ h => Bx.Same.tup h.1 ht) ?_ ?_
    · rintro i v H2a H2 hi ⟨s2, hM⟩ ⟨rfl, hx⟩
      obtain ⟨x, hx1, dl⟩ := da_atM ha hx
      obtain ⟨b, rfl, hb⟩ := lit_dp (dp_same s2 dl)
      refine ⟨b, _, rfl, hb, rfl, _, _, rfl, _, _, rfl, rfl, rfl, ?_⟩
      walk_at "rd"
      refine ⟨_, .inr x.1, rfl, hM, ?_, ?_⟩
      · rw [show (asV (neg (c.take i))).length = (c.take i).length by unfold asV neg; rw [List.length_map, List.length_map]]
        exact szl (Nat.lt_of_le_of_lt (List.length_take_le' i c) (by omega))
      · rw [dc_neg (H := H) (p := p) (xs := xs) vc lc i (by omega) x hx1]
        exact ⟨same_at hD s2, upd_same⟩
    rintro H2 ⟨s2, hM⟩
    rw [yl, List.take_length] at hM
    have th2 := th.same s2
    walk_at "rd"
    show spUnd K _ _ _ _
    unfold spUnd
    refine ⟨T, na, ca, p, xs, ns, cs, c, rfl, th2, dp_same s2 hp, by omega, by omega, fun r H3 s3 hr3 => ?_⟩
    have th3 := th2.same s3
    walk_at "rd"
    refine ⟨_, _, _, _, rfl, rfl, th3.t, atI_nat (j := 1) rfl, ?_⟩
    walk_at "rd"
    refine ⟨r, ca, D, xs, und ns c, cs, neg c, rfl, hr3, Nat.le_trans (List.length_filter_le _ _) nl, th3.c, th3.d, fun d hd => by have := (vc_ok tx (by omega) (vcs d hd)).2; omega, ll, s3 _ _ hM, neg_nodup vc nd, ?_, fun z hz => (tx z (und_mem.mp hz).1).ok, fun v o H4 s4 sol hv => ?_⟩
    · have z := List.length_filter_le (fun z => !decide (z ∈ c.map (·.1))) ns
      show (neg c).length + (ns.filter _).length ≤ 1000
      have z2 : (neg c).length = c.length := by unfold neg; rw [List.length_map]
      omega
    · exact q v o H4 (s2.trans (s3.trans s4)) sol hv
end
end K12
namespace K12
local macro_rules | `(tactic| walk_at "rd") => `(tactic| repeat (first | refine ⟨rfl, ?_⟩ | refine ⟨_, rfl, ?_⟩ | refine ⟨_, _, rfl, rfl, ?_⟩ | refine ⟨⟨_, rfl⟩, ?_⟩))
open PySem PySem.Spec PyProof.Rows L2 Bx TL Dx Zx Ow Sup NdefX Px
theorem cut_pre (xs : List V) (k : Nat) : cutV xs none (some (k : Int)) = xs.take k := by
  unfold cutV
  rw [HT.sIx_nat]
  show (xs.drop 0).take (min k xs.length - 0) = xs.take k
  rw [List.drop_zero, Nat.sub_zero, ← List.take_eq_take_min]
theorem tup_lns : ∀ ls : List Ln, tupAll (ls.map lnD) = true
  | [] => rfl
  | x :: ls => by
    show (tupD (lnD x) && tupAll (ls.map lnD)) = true
    rw [tup_lns ls]
    cases x <;> rfl
theorem at_last {xs : List V} {v : V} (h : xs[xs.length - 1]? = some v) (h0 : 0 < xs.length) : atI xs (-1) = some v := by
  obtain ⟨i, e⟩ := List.getElem?_eq_some_iff.mp h
  have ne : xs ≠ [] := List.length_pos_iff.mp h0
  have z := List.dropLast_concat_getLast ne
  have e2 : xs.getLast ne = v := by rw [List.getLast_eq_getElem]; exact e
  rw [← z, e2]
  exact atI_last _ _
theorem run_ok {ns : List Str} {cs : List Cl} (vc : ∀ c ∈ cs, Vc ns c) : ∀ {bs : List Cl} {lns : List Ln} {r : Option (List Cl)}, Run cs bs lns r → (∀ c ∈ bs, Vc ns c) → ∀ ds, r = some ds → ∀ c ∈ ds, Vc ns c := by
  intro bs lns r h
  induction h with
  | done bs =>
    intro vb ds e
    cases e
    exact vb
  | stop d =>
    intro vb ds e
    cases e
  | step d _ ih =>
    intro vb ds e
    refine ih (fun c hc => ?_) ds e
    rcases List.mem_append.mp hc with h | h
    · exact vb c h
    · rw [List.mem_singleton.mp h]
      exact der_vc vc vb d
theorem lay_cls : ∀ {cs : List Cl}, (∀ c ∈ cs, OkC c) → PyData.canLayAll0 (cs.map clD) = true
  | [], _ => rfl
  | c :: cs, h => by
    show (PyData.canLay0 (clD c) && PyData.canLayAll0 (cs.map clD)) = true
    have e : PyData.canLay0 (clD c) = true := lay_lits (h c (List.mem_cons_self ..))
    rw [e, lay_cls fun x hx => h x (List.mem_cons_of_mem _ hx)]
    rfl
theorem dep_cls : ∀ cs : List Cl, PyData.depthAll (cs.map clD) ≤ 2
  | [] => Nat.zero_le _
  | c :: cs => by
    have ih := dep_cls cs
    have z := dep_cl c
    show max (clD c).depth (PyData.depthAll (cs.map clD)) ≤ 2
    omega
theorem sh_clsT {cs : List Cl} (h : ∀ c ∈ cs, OkC c) : SeqAt.shaped (.tuple (cs.map clD)) = true := by
  unfold SeqAt.shaped
  have z := dep_cls cs
  have e : PyData.canLay0 (.tuple (cs.map clD)) = true := lay_cls h
  have d : PyData.depth (.tuple (cs.map clD)) = PyData.depthAll (cs.map clD) + 1 := rfl
  rw [e, d, Bool.true_and, decide_eq_true_iff]
  omega
section
variable {P : Program} {w : World} {K : PySem.W.Frag} {mg : Str → Option Value} {base : Heap}
theorem dp_line {H : Hp} {t : Addr} : ∀ {x : Ln}, H t = some (.tup ((lnK x).map kV)) → Dp K H (.ref t) (lnD x)
  | .giv i, h => .tup (sqt h) (.cons (.str _) (da_one (.int _)))
  | .cut i j n, h => .tup (sqt h) (.cons (.str _) (.cons (.int _) (.cons (.int _) (da_one (.str _)))))
theorem keys_lines {H : Hp} : ∀ {lns : List Ln} {k : Nat} {bs : List Addr}, IsKeys H (dcV lns k) bs → DpAll K H (bs.map V.ref) (lns.map lnD)
  | [], k, bs, h => by
    unfold IsKeys dcV at h
    cases h
    exact .nil
  | x :: lns, k, bs, h => by
    have h2 : Paired (fun (p : List Key × V) b => H b = some (.tup (p.1.map kV))) ((lnK x, V.int (k : Nat)) :: dcV lns (k + 1)) bs := h
    cases h2 with
    | cons h3 h4 => exact .cons (dp_line h3) (keys_lines h4)
@[irreducible] def spCert (K : PySem.W.Frag) (C : Addr) : Sp := fun vs H Q _ => ∃ (a dx T na ca p : Addr) (fs : List (Str × V)) (xs : List V) (ns : List Str) (cs : List Cl) (c : Cl), vs = [.ref a, .ref T, .ref p] ∧ H a = some (.ins C dx fs) ∧ fs.lookup ("counterexample" : Str) = none ∧ Th K H T na ca xs ns cs ∧ (∀ d ∈ cs, Vc ns d) ∧ ns.Nodup ∧ (∀ z ∈ ns, Tx 17 z) ∧ ns.length ≤ 5 ∧ cs.length ≤ 1000 ∧ Dp K H (.ref p) (clD c) ∧ Vc ns c ∧
  (∀ r H', Same H H' → SolR cs (neg c) (und ns c) (some r) → Q .non H') ∧
  ∀ (t : Addr) (zs : List V) (lns : List Ln) (bs : List Cl) (b : Cl) (H' : Hp), Same H H' → SolR cs (neg c) (und ns c) none → SqT K H' t zs → DpAll K H' zs (lns.map lnD) → Dv cs lns bs → bs.getLast? = some b → fl (neg c) b = true → lns.length ≤ 300 → Q (.ref t) H'
set_option maxHeartbeats 2000000 in
theorem ok_certificate {C : Addr} {f : Addr} {fd : FuncData} (F : Fun K "certificate" "Bits.certificate" s_Bits_certificate f fd) (m_list : mg "list" = none) (m_tuple : mg "tuple" = none) (M_counterexample : MthC P w K mg base C "counterexample" 8 ["self", "theory", "constraint"] (spCE K)) (C__undecided : Cal P w K mg base "_undecided" 1 ["theory", "constraint"] (spUnd K)) (C__refute : Cal P w K mg base "_refute" 7 ["names", "clauses", "decided", "lines"] (spRef K 6)) : FnOk P w K mg base CX0 9 f fd ["self", "theory", "constraint"] (spCert K C) := by
  refine F.ok sc_Bits_certificate (fun vs H Q E h => ?_) (fun cdv A outer s H vs Q E hr h => ?_)
  · unfold spCert at h
    obtain ⟨a, dx, T, na, ca, p, fs, xs, ns, cs, c, rfl, _⟩ := h
    rfl
  · unfold spCert at h
    obtain ⟨a, dx, T, na, ca, p, fs, xs, ns, cs, c, rfl, hins, hno, th, vcs, nd, tx, nl, ll, hp, vc, q1, q2⟩ := h
    have lc := (vc_ok tx (by omega) vc).2
    have okc := (vc_ok tx (by omega) vc).1
    refine ⟨_, (pss_cons (ps_if (pt_cmpR op_notN (pe_mth M_counterexample (hr.mono (by decide)) (pv 0) (pa_cons (pv 1) (pa_cons (pv 2) pa_nil))) pe_non (nomark _))
      (pss_one (ps_ret pe_non))
      pss_nil)
    (pss_cons (ps_set (i := 3) sc_Bits_certificate.nd rfl (Or.inl rfl) pe_dnewT)
    (pss_cons (ps_setDc (i := 4) (own := [("name", 7), ("sign", 8)]) (tt := tYes) rfl sc_Bits_certificate.nd rfl rfl (sw_trueD rfl rfl rfl (by decide +kernel)) (pi_tup (pv 2)) (blkOk_by (N := n_Bits_certificate) (sc := defScope s_Bits_certificate) (by decide +kernel)) (fun _ _ _ _ _ => pg_tupK (K := K) (n := 2) rfl rfl (pgs_cons (pg_name (i := 7) sc_Bits_certificate.nd rfl (Or.inl rfl)) (pgs_cons (pg_name (i := 8) sc_Bits_certificate.nd rfl (Or.inl rfl)) pgs_nil))) (fun _ _ _ _ _ => pts_nil) (fun _ _ _ _ _ => (pv 7)) (fun _ _ _ _ _ => (pe_op op_sub pe_int (pv 8))))
    (pss_cons (ps_asg (pe_cal C__refute (hr.mono (by decide)) (pa_cons (pe_cal C__undecided (hr.mono (by decide)) (pa_cons (pv 1) (pa_cons (pv 2) pa_nil))) (pa_cons (pe_ix ix_tup (pv 1) pe_int (fun _ _ => rfl)) (pa_cons (pv 4) (pa_cons (pv 3) pa_nil))))) (pg_tup rfl (pgs_cons (pg_name (i := 5) sc_Bits_certificate.nd rfl (Or.inl rfl)) (pgs_cons (pg_name (i := 6) sc_Bits_certificate.nd rfl (Or.inl rfl)) pgs_nil))))
    (pss_one (ps_ret (pe_callTy (T := "tuple") call_tuple_of (by rfl) m_tuple (by decide +kernel) (pa_cons (pe_slice sl_list (pe_callTy (T := "list") (call_list_dT rfl) (by rfl) m_list (by decide +kernel) (pa_cons (pv 3) pa_nil)) po_none (po_some (pe_op op_add (pv 5) pe_int))) pa_nil)))))))), ?_⟩
    walk_at "rd"
    refine ⟨a, dx, fs, rfl, hins, hno, ?_⟩
    walk_at "rd"
    show spCE K _ _ _ _
    unfold spCE
    refine ⟨a, T, na, ca, p, xs, ns, cs, c, rfl, th, vcs, nd, tx, nl, ll, hp, vc, fun v o H1 s1 sol hv => ?_⟩
    walk_at "rd"
    cases o with
    | some r =>
      obtain ⟨e, rfl, _⟩ := hv
      refine ite2 (fun _ => ?_) (fun h => absurd (show (!decide (V.ref e = V.non)) = true by simp) h)
      walk_at "rd"
      exact q1 r H1 s1 sol
    | none =>
      have ev : v = .non := hv
      subst ev
      refine ite2 (fun h => absurd h (by decide)) (fun _ => ?_)
      walk_at "rd"
      intro L nL
      have sL := same_new nL (o := .dT [])
      have hL := upd_same (H := H1) (a := L) (o := .dT [])
      have nLH : H L = none := s1.free nL
      have s02 := s1.trans sL
      generalize upd H1 L (.dT []) = H2 at sL hL s02 ⊢
      walk_at "rd"
      obtain ⟨p', ys, ep, ht, ha⟩ := dp_tup (dp_same s02 hp)
      cases ep
      have yl : ys.length = c.length := by rw [da_len ha, List.length_map]
      refine ⟨⟨_, ht⟩, fun D hD => ?_⟩
      refine walk_any walk_tup (fun i H' => Same H2 H' ∧ H' D = some (.dK (asV (neg (c.take i))))) ⟨same_new hD, upd_same⟩ (fun i H' _ h => Bx.Same.tup h.1 ht) ?_ ?_
      · rintro i v H3a H3 hi ⟨s3, hM⟩ ⟨rfl, hx⟩
        obtain ⟨x, hx1, dl⟩ := da_atM ha hx
        obtain ⟨b, rfl, hb⟩ := lit_dp (dp_same s3 dl)
        refine ⟨b, _, rfl, hb, rfl, _, _, rfl, _, _, rfl, rfl, rfl, ?_⟩
        walk_at "rd"
        refine ⟨_, .inr x.1, rfl, hM, ?_, ?_⟩
        · rw [show (asV (neg (c.take i))).length = (c.take i).length by unfold asV neg; rw [List.length_map, List.length_map]]
          exact szl (Nat.lt_of_le_of_lt (List.length_take_le' i c) (by omega))
        · rw [dc_neg (H := H) (p := p) (xs := xs) vc lc i (by omega) x hx1]
          exact ⟨same_at hD s3, upd_same⟩
      rintro H3 ⟨s3, hM⟩
      rw [yl, List.take_length] at hM
      have s03 := s02.trans s3
      have th3 := th.same s03
      walk_at "rd"
      show spUnd K _ _ _ _
      unfold spUnd
      refine ⟨T, na, ca, p, xs, ns, cs, c, rfl, th3, dp_same s03 hp, by omega, by omega, fun r H4 s4 hr4 => ?_⟩
      have s04 := s03.trans s4
      have th4 := th3.same s4
      have hL4 := (s3.trans s4) _ _ hL
      walk_at "rd"
      refine ⟨_, _, _, _, rfl, rfl, th4.t, atI_nat (j := 1) rfl, ?_⟩
      walk_at "rd"
      refine ⟨r, ca, D, L, xs, und ns c, ns, cs, [], neg c, [], rfl, hr4, Nat.le_trans (List.length_filter_le _ _) nl, th4.c, th4.d, vcs, tx, by omega, ll, s4 _ _ hM, neg_nodup vc nd, ?_, fun z hz => (tx z (und_mem.mp hz).1).ok, sol, hL4, dv_nil cs, by decide, fun r5 b5 i5 c5 lns bs H5 b45 hr5 d5 hL5 dv pre prb at5 fl5 len5 => ?_⟩
      · have z := List.length_filter_le (fun z => !decide (z ∈ c.map (·.1))) ns
        show (neg c).length + (ns.filter _).length ≤ 1000
        have z2 : (neg c).length = c.length := by unfold neg; rw [List.length_map]
        omega
      have s05 : Same H H5 := Bx.SameBut.same s04 nLH b45
      have ln5 : lns.length ≤ 63 := by
        have e : (2 : Nat) ^ (5 + 1) = 64 := by decide
        have z : lns.length + 1 ≤ 0 + 2 ^ (5 + 1) := len5
        omega
      walk_at "rd"
      refine ⟨r5, _, rfl, hr5, rfl, _, _, rfl, _, _, rfl, rfl, ?_⟩
      walk_at "rd"
      refine ⟨L, _, rfl, .inl hL5, fun kl ks nkl isk => ?_⟩
      have skl := same_new nkl (o := .lst (ks.map V.ref))
      have hkl := upd_same (H := H5) (a := kl) (o := .lst (ks.map V.ref))
      have dk := dpAll_same skl (keys_lines (K := K) isk)
      generalize upd H5 kl (.lst (ks.map V.ref)) = H6 at skl hkl dk ⊢
      generalize ks.map V.ref = kvs at hkl dk
      walk_at "rd"
      refine ⟨kl, _, rfl, sq hkl, fun cl ncl => ?_⟩
      have e7 : cutV kvs none (some ((i5 : Nat) + 1 : Int)) = kvs.take (i5 + 1) := cut_pre kvs (i5 + 1)
      have scl := same_new ncl (o := .lst (cutV kvs none (some ((i5 : Nat) + 1 : Int))))
      have hcl := upd_same (H := H6) (a := cl) (o := .lst (cutV kvs none (some ((i5 : Nat) + 1 : Int))))
      generalize upd H6 cl (.lst (cutV kvs none (some ((i5 : Nat) + 1 : Int)))) = H7 at scl hcl ⊢
      rw [e7] at hcl
      refine ⟨cl, _, rfl, .inl ⟨sq hcl, fun t nt => ?_⟩⟩
      have st := same_new nt (o := .tup (kvs.take (i5 + 1)))
      have s08 := s05.trans (skl.trans (scl.trans st))
      refine q2 t (kvs.take (i5 + 1)) (lns.take (i5 + 1)) (bs.take (i5 + 1)) c5 _ s08 sol (sqt upd_same) ?_ (dv_take dv _) ?_ fl5 ?_
      · rw [List.map_take]
        exact da_take (dpAll_same (scl.trans st) dk) _
      · obtain ⟨hi, e⟩ := List.getElem?_eq_some_iff.mp at5
        rw [List.getLast?_eq_getElem?, List.length_take, Nat.min_eq_left (by omega), Nat.add_sub_cancel, List.getElem?_take_of_lt (by omega)]
        exact at5
      · exact Nat.le_trans (List.length_take_le' _ _) (by omega)
@[irreducible] def spAcc (K : PySem.W.Frag) : Sp := fun vs H Q _ => ∃ (a T na ca p t : Addr) (xs zs : List V) (ns : List Str) (cs : List Cl) (c : Cl) (lns : List Ln), vs = [.ref a, .ref T, .ref p, .ref t] ∧ Th K H T na ca xs ns cs ∧ (∀ d ∈ cs, Vc ns d) ∧ (∀ z ∈ ns, Tx 17 z) ∧ ns.length ≤ 20 ∧ cs.length ≤ 1000 ∧ Dp K H (.ref p) (clD c) ∧ OkC c ∧ SqT K H t zs ∧ DpAll K H zs (lns.map lnD) ∧ (∀ x ∈ lns, OkLn x) ∧ lns.length ≤ 1000 ∧
  ∀ (r : Option (List Cl)) (H' : Hp), Same H H' → Run cs [] lns r → Q (.bl (match r with | none => false | some bs => match bs.getLast? with | none => false | some b => inC c b)) H'
theorem ok_accepts {f : Addr} {fd : FuncData} (F : Fun K "accepts" "Bits.accepts" s_Bits_accepts f fd) (C_derive_lines : Cal P w K mg base "derive_lines" 3 ["clauses", "certificate"] (spRun K)) (C_contains : Cal P w K mg base "contains" 1 ["first", "second"] (spContains K)) : FnOk P w K mg base CX0 4 f fd ["self", "theory", "constraint", "certificate"] (spAcc K) := by
  refine F.ok sc_Bits_accepts (fun vs H Q E h => ?_) (fun cdv A outer s H vs Q E hr h => ?_)
  · unfold spAcc at h
    obtain ⟨a, T, na, ca, p, t, xs, zs, ns, cs, c, lns, rfl, _⟩ := h
    rfl
  · unfold spAcc at h
    obtain ⟨a, T, na, ca, p, t, xs, zs, ns, cs, c, lns, rfl, th, vcs, tx, nl, ll, hp, okc, ht, dz, okl, lnl, q⟩ := h
    refine ⟨_, (pss_cons (ps_set (i := 4) sc_Bits_accepts.nd rfl (Or.inl rfl) (pe_cal C_derive_lines (hr.mono (by decide)) (pa_cons (pe_ix ix_tup (pv 1) pe_int (fun _ _ => rfl)) (pa_cons (pv 3) pa_nil))))
    (pss_cons (ps_if (PW.pt (pw_or (pt_cmpR op_isN (pv 4) pe_non (nomark _)) (pw_or1 (pt_cmpR (op_eqD hr.units) (pv 4) (pe_tup pa_nil) (nomark _)))))
      (pss_one (ps_ret pe_bl))
      pss_nil)
    (pss_one (ps_ret (pe_cal C_contains (hr.mono (by decide)) (pa_cons (pv 2) (pa_cons (pe_ix ix_tup (pv 4) (pe_un un_neg pe_int) (fun _ _ => rfl)) pa_nil))))))), ?_⟩
    walk_at "rd"
    refine ⟨_, _, _, _, rfl, rfl, th.t, atI_nat (j := 1) rfl, ?_⟩
    walk_at "rd"
    show spRun K _ _ _ _
    unfold spRun
    refine ⟨ca, t, xs, zs, ns, cs, lns, rfl, th.c, th.d, ht, dz, okl, vcs, tx, nl, ll, lnl, fun v r H1 s1 run hv => ?_⟩
    have q1 := fun H' s => q r H' s run
    walk_at "rd"
    cases r with
    | none =>
      have ev : v = .non := hv
      subst ev
      refine ite2 (fun _ => ?_) (fun h => absurd (show decide (V.non = V.non) = true by simp) h)
      walk_at "rd"
      exact q1 H1 s1
    | some bs =>
      have dv : Dp K H1 v (.tuple (bs.map clD)) := hv
      have vcb : ∀ d ∈ bs, Vc ns d := run_ok vcs run (fun d hd => (by cases hd)) bs rfl
      obtain ⟨b, ys, rfl, hb, hy⟩ := dp_tup dv
      refine ite2 (fun h => absurd h (by simp)) (fun _ => ?_)
      walk_at "rd"
      refine ⟨sz (by decide), fun U nU => ?_⟩
      have sU := same_new nU (o := .tup ([] : List V))
      have hU := upd_same (H := H1) (a := U) (o := .tup ([] : List V))
      generalize upd H1 U (.tup []) = H2 at sU hU ⊢
      have okb : ∀ d ∈ bs, OkC d := fun d hd => (vc_ok tx nl (vcb d hd)).1
      walk_at "rd"
      refine ⟨.tuple (bs.map clD), .tuple [], dp_same sU dv, .tup (sqt hU) .nil, sh_clsT okb, rfl, ?_⟩
      have e1 : PyData.eqv (.tuple (bs.map clD)) (.tuple []) = decide (bs = []) := by cases bs <;> rfl
      rw [e1]
      have s2 := s1.trans sU
      have yl : ys.length = bs.length := by rw [da_len hy, List.length_map]
      refine ⟨_, rfl, ite2 (fun h6 => ?_) (fun h6 => ?_)⟩
      · have e : bs = [] := of_decide_eq_true h6
        subst e
        walk_at "rd"
        exact q1 H2 s2
      · have ne : bs ≠ [] := fun e => h6 (decide_eq_true e)
        have l0 : 0 < bs.length := List.length_pos_iff.mpr ne
        have ev : ys[ys.length - 1]? = some (ys[ys.length - 1]'(by omega)) := List.getElem?_eq_getElem _
        obtain ⟨d, hd1, dd⟩ := da_atM hy ev
        generalize ys[ys.length - 1]'(by omega) = yv at ev dd
        obtain ⟨e, es, rfl, _⟩ := dp_tup dd
        have dm := List.mem_of_getElem? hd1
        have gl : bs.getLast? = some d := by rw [List.getLast?_eq_getElem?, ← yl]; exact hd1
        walk_at "rd"
        refine ⟨_, _, _, _, rfl, rfl, Bx.Same.tup sU hb, at_last ev (by omega), ?_⟩
        walk_at "rd"
        show spContains K _ _ _ _
        unfold spContains
        refine ⟨p, e, c, d, rfl, dp_same s2 hp, dp_same sU dd, okc, okb d dm, ?_, fun H3 s3 => ?_⟩
        · have := (vc_ok tx nl (vcb d dm)).2
          omega
        · have z := q1 H3 (s2.trans s3)
          simp only [gl] at z
          exact z
end
end K12
namespace K12
local macro_rules | `(tactic| walk_at "rd") => `(tactic| repeat (first | refine ⟨rfl, ?_⟩ | refine ⟨_, rfl, ?_⟩ | refine ⟨_, _, rfl, rfl, ?_⟩ | refine ⟨⟨_, rfl⟩, ?_⟩))
open PySem PySem.Spec PyProof.Rows L2 Bx TL Dx Zx Ow Sup NdefX Px
theorem sh_litsL {c : Cl} (h : OkC c) : SeqAt.shaped (.list (c.map litD)) = true := by
  unfold SeqAt.shaped
  have z := dep_lits c
  have e : PyData.canLay0 (.list (c.map litD)) = true := lay_lits h
  have d : PyData.depth (.list (c.map litD)) = PyData.depthAll (c.map litD) + 1 := rfl
  rw [e, d, Bool.true_and, decide_eq_true_iff]
  omega
/-- the cut of two clauses on a name -/
def CutR (c d : Cl) (n : Str) (o : Option Cl) : Prop := if (n, (1 : Int)) ∈ c ∧ (n, (0 : Int)) ∈ d then IsRes c d n o else o = none
theorem nodup_snoc {l : Cl} {x : Lit} (nd : l.Nodup) (h : x ∉ l) : (l ++ [x]).Nodup := by
  rw [List.nodup_append]
  refine ⟨nd, List.nodup_cons.mpr ⟨List.not_mem_nil, List.nodup_nil⟩, fun a ha b hb e => ?_⟩
  rw [List.mem_singleton.mp hb] at e
  exact h (by rw [← e]; exact ha)
theorem up_nodup {c : Cl} (up : Up c) : c.Nodup := up.imp fun {a b} (z : a.1.cps.toList < b.1.cps.toList) (e : a = b) => List.lt_irrefl b.1.cps.toList (by rw [e] at z; exact z)
section
variable {P : Program} {w : World} {K : PySem.W.Frag} {mg : Str → Option Value} {base : Heap}
theorem ne_name (a b : Str) : (!decide (V.str a = V.str b)) = decide (a ≠ b) := by
  by_cases h : a = b
  · subst h
    simp
  · rw [decide_eq_false (fun z => h (V.str.inj z)), decide_eq_true h]
    rfl
@[irreducible] def spCut (K : PySem.W.Frag) : Sp := fun vs H Q _ => ∃ (p q : Addr) (c d : Cl) (n : Str) (ns : List Str), vs = [.ref p, .ref q, .str n] ∧ Dp K H (.ref p) (clD c) ∧ Dp K H (.ref q) (clD d) ∧ Vc ns c ∧ Vc ns d ∧ (∀ z ∈ ns, Tx 17 z) ∧ ns.length ≤ 20 ∧ PyData.strOk n = true ∧
  ∀ (v : V) (o : Option Cl) (H' : Hp), Same H H' → CutR c d n o → OD K H' v o → Q v H'
set_option maxHeartbeats 2000000 in
theorem ok_cut {f : Addr} {fd : FuncData} (F : Fun K "_law_cut" "_law_cut" s__law_cut f fd) (m_tuple : mg "tuple" = none) (m_sorted : mg "sorted" = none) : FnOk P w K mg base CX0 1 f fd ["_law_first", "_law_second", "_law_name"] (spCut K) := by
  refine F.ok sc__law_cut (fun vs H Q E h => ?_) (fun cdv A outer s H vs Q E hr h => ?_)
  · unfold spCut at h
    obtain ⟨p, q, c, d, n, ns, rfl, _⟩ := h
    rfl
  · unfold spCut at h
    obtain ⟨p, q, c, d, n, ns, rfl, hc, hd, vc, vd, tx, nl, on, fin⟩ := h
    obtain ⟨oc, lc⟩ := vc_ok tx nl vc
    obtain ⟨od, ld⟩ := vc_ok tx nl vd
    refine ⟨_, (pss_cons (ps_if (PW.pt (pw_or (pt_cmpR (Sl.op_notInT (K := K) rfl (room hr)) (pe_tup (pa_cons (pv 2) (pa_cons pe_int pa_nil))) (pv 0) (by rfl)) (pw_or1 (pt_cmpR (Sl.op_notInT (K := K) rfl (room hr)) (pe_tup (pa_cons (pv 2) (pa_cons pe_int pa_nil))) (pv 1) (by rfl)))))
      (pss_one (ps_ret pe_non))
      pss_nil)
    (pss_cons (ps_setLc (i := 3) (own := [("_law_literal", 4)]) rfl sc__law_cut.nd rfl rfl (sw_true rfl rfl rfl (by decide +kernel)) (pi_tup (pv 0)) (blkOk_by (N := n__law_cut) (sc := defScope s__law_cut) (by decide +kernel)) (fun _ _ _ _ _ => pg_name (i := 4) sc__law_cut.nd rfl (Or.inl rfl)) (fun _ _ _ _ _ => pts_one (pt_cmpR op_ne (pe_ix (ix_tupK (K := K) rfl) (pv 4) pe_int (fun _ _ => rfl)) (pv 2) (nomark _))) (fun _ _ _ _ _ => (pv 4)))
    (pss_cons (ps_for PassesOwn.never rfl (pi_tup (pv 1)) (pg_name (i := 4) sc__law_cut.nd rfl (Or.inl rfl))
      (pss_one (ps_if (PW.pt (pw_and (pt_cmpR op_ne (pe_ix ix_tup (pv 4) pe_int (fun _ _ => rfl)) (pv 2) (nomark _)) (pw_and1 (pt_cmpR (op_notInD (room hr)) (pv 4) (pv 3) (by rfl)))))
      (pss_one (ps_expr (pe_bm PySem.F.plainAttrs_list PySem.F.slot_list_append PySem.F.type_list_append mt_append (pv 3) (pa_cons (pv 4) pa_nil))))
      pss_nil)))
    (pss_cons (ps_for PassesOwn.never rfl (pi_list (pv 3)) (pg_name (i := 4) sc__law_cut.nd rfl (Or.inl rfl))
      (pss_one (ps_if (pt_cmpR (op_inD (room hr)) (pe_tup (pa_cons (pe_ix ix_tup (pv 4) pe_int (fun _ _ => rfl)) (pa_cons (pe_op op_sub pe_int (pe_ix ix_tup (pv 4) pe_int (fun _ _ => rfl))) pa_nil))) (pv 3) (by rfl))
      (pss_one (ps_ret pe_non))
      pss_nil)))
    (pss_one (ps_ret (pe_callTy (T := "tuple") call_tuple_of (by rfl) m_tuple (by decide +kernel) (pa_cons (pe_callB (id := "sorted") (Sd.cr_sortT (room hr)) (by rfl) m_sorted (by decide +kernel) (pa_cons (pv 3) pa_nil)) pa_nil)))))))), ?_⟩
    walk_at "rd"
    have noC : ¬ ((n, (1 : Int)) ∈ c ∧ (n, (0 : Int)) ∈ d) → CutR c d n none := fun h => by
      unfold CutR
      rw [if_neg h]
    refine ⟨sz (by show 2 ≤ 100000; decide), fun T1 nT1 => ?_⟩
    have s1 := same_new nT1 (o := .tup [.str n, .int 1])
    have hT1 := upd_same (H := H) (a := T1) (o := .tup [.str n, .int 1])
    generalize upd H T1 (.tup [.str n, .int 1]) = H1 at s1 hT1 ⊢
    walk_at "rd"
    refine ⟨litD (n, 1), c.map litD, dp_lit (sqt hT1), dp_same s1 hc, sh_lit (l := (n, 1)) on, sh_cl oc, ?_⟩
    rw [any_lit]
    by_cases m1 : (n, (1 : Int)) ∈ c
    case neg =>
      rw [decide_eq_false m1]
      walk_at "rd"
      exact fin .non none H1 s1 (noC fun h => m1 h.1) rfl
    rw [decide_eq_true m1]
    walk_at "rd"
    refine ⟨sz (by show 2 ≤ 100000; decide), fun T2 nT2 => ?_⟩
    have s2 := s1.trans (same_new nT2 (o := .tup [.str n, .int 0]))
    have hT2 := upd_same (H := H1) (a := T2) (o := .tup [.str n, .int 0])
    generalize upd H1 T2 (.tup [.str n, .int 0]) = H2 at s2 hT2 ⊢
    walk_at "rd"
    refine ⟨litD (n, 0), d.map litD, dp_lit (sqt hT2), dp_same s2 hd, sh_lit (l := (n, 0)) on, sh_cl od, ?_⟩
    rw [any_lit]
    by_cases m2 : (n, (0 : Int)) ∈ d
    case neg =>
      rw [decide_eq_false m2]
      walk_at "rd"
      exact fin .non none H2 s2 (noC fun h => m2 h.2) rfl
    rw [decide_eq_true m2]
    walk_at "rd"
    obtain ⟨p', xs, ep, ht, ha⟩ := dp_tup (dp_same s2 hc)
    cases ep
    obtain ⟨q', ys, eq, ht2, ha2⟩ := dp_tup (dp_same s2 hd)
    cases eq
    have xl : xs.length = c.length := by rw [da_len ha, List.length_map]
    have yl : ys.length = d.length := by rw [da_len ha2, List.length_map]
    refine ⟨⟨_, ht⟩, fun D hD => ?_⟩
    refine lc_it walk_tup (fun i H' => Same H2 H' ∧ ∃ us, H' D = some (.lst us) ∧ DpAll K H' us (((c.take i).filter fun l => decide (l.1 ≠ n)).map litD)) ⟨same_new hD, [], upd_same, .nil⟩ (fun i H' _ h => Bx.Same.tup h.1 ht) ?_ ?_
    · rintro i v H3 H4 hi ⟨s3, us, hM, hus⟩ ⟨rfl, hx⟩
      obtain ⟨l, hl, dl⟩ := da_atM ha hx
      have dl4 := dp_same s3 dl
      obtain ⟨b, rfl, hb⟩ := lit_dp dl4
      refine ⟨rfl, ?_⟩
      walk_at "rd"
      refine ⟨_, _, _, _, rfl, rfl, hb, atI_nat (j := 0) rfl, ?_⟩
      walk_at "rd"
      rw [ne_name]
      refine ite2 (fun h6 => ?_) (fun h6 => ?_)
      · walk_at "rd"
        have ul : us.length ≤ 20 := by
          rw [da_len hus, List.length_map]
          exact Nat.le_trans (Nat.le_trans (List.length_filter_le _ _) (List.length_take_le' i c)) (by omega)
        refine ⟨us, hM, szl (by omega), same_at hD s3, us ++ [.ref b], upd_same, ?_⟩
        rw [take_filterA hl, List.filter_cons, if_pos h6, List.filter_nil, List.map_append]
        exact da_app (da_tk (tk_lst hM) _ _ (tup_lits _) hus) (da_one (dp_tk (tk_lst hM) _ _ rfl dl4))
      · rw [take_filterA hl, List.filter_cons, if_neg h6, List.filter_nil, List.append_nil]
        exact ⟨s3, us, hM, hus⟩
    rintro H3 ⟨s3, us, hM, hus⟩
    rw [xl, List.take_length] at hus
    have nd0 : (c.filter fun l => decide (l.1 ≠ n)).Nodup := (up_nodup vc.1).filter _
    have l0 : (c.filter fun l => decide (l.1 ≠ n)).length ≤ 20 := Nat.le_trans (List.length_filter_le _ _) lc
    have mem0 : ∀ l, l ∈ (c.filter fun l => decide (l.1 ≠ n)) ↔ (l ∈ c ∧ l.1 ≠ n) := fun l => by rw [List.mem_filter, decide_eq_true_iff]
    generalize (c.filter fun l => decide (l.1 ≠ n)) = f0 at hus nd0 l0 mem0
    walk_at "rd"
    have ht23 := Bx.Same.tup s3 ht2
    refine ⟨⟨_, ht23⟩, for_it (walk_tup (K := K) (a := q) (xs := ys)) (fun i σ H' => ∃ (o4 : Option V) (us : List V) (fs : Cl), σ = [some (.ref p), some (.ref q), some (.str n), some (.ref D), o4] ∧ Same H2 H' ∧ H' D = some (.lst us) ∧ DpAll K H' us (fs.map litD) ∧ fs.Nodup ∧ fs.length ≤ 20 + i ∧ ∀ l, l ∈ fs ↔ (l ∈ c ∧ l.1 ≠ n) ∨ (l ∈ d.take i ∧ l.1 ≠ n))
      ⟨_, us, f0, rfl, s3, hM, hus, nd0, l0, fun l => (mem0 l).trans ⟨.inl, fun h => h.resolve_right fun z => (by simp at z)⟩⟩ (fun i σ H' _ ⟨_, _, _, _, s, _⟩ => Bx.Same.tup s ht2) ?_ ?_⟩
    · rintro i x σ H4 H5 hi ⟨o4, us, fs, rfl, s4, hM, hus, ndf, lf, mem⟩ ⟨rfl, hx⟩
      obtain ⟨l, hl, dl⟩ := da_atM ha2 hx
      have dl4 := dp_same s4 dl
      obtain ⟨b, rfl, hb⟩ := lit_dp dl4
      have okf : OkC fs := fun z hz => by
        rcases (mem z).mp hz with h | h
        · exact oc z h.1
        · exact od z (List.mem_of_mem_take h.1)
      have mtk : ∀ z, z ∈ d.take (i + 1) ↔ z ∈ d.take i ∨ z = l := fun z => by
        rw [List.take_add_one, hl, List.mem_append]
        simp
      have keep : (l.1 ≠ n → l ∈ fs) → ∀ z, z ∈ fs ↔ (z ∈ c ∧ z.1 ≠ n) ∨ (z ∈ d.take (i + 1) ∧ z.1 ≠ n) := fun h z => by
        rw [mem z, mtk z]
        constructor
        · rintro (a | a)
          · exact .inl a
          · exact .inr ⟨.inl a.1, a.2⟩
        · rintro (a | ⟨a | a, e⟩)
          · exact .inl a
          · exact .inr ⟨a, e⟩
          · subst a
            exact (mem _).mp (h e)
      walk_at "rd"
      refine ⟨_, _, _, _, rfl, rfl, hb, atI_nat (j := 0) rfl, ?_⟩
      walk_at "rd"
      rw [ne_name]
      refine ite2 (fun h6 => ?_) (fun h6 => ?_)
      · have h7 : l.1 ≠ n := of_decide_eq_true h6
        walk_at "rd"
        refine ⟨litD l, fs.map litD, dl4, .lst (sq hM) hus, sh_lit (od l (List.mem_of_getElem? hl)), sh_litsL okf, ?_⟩
        rw [any_lit]
        by_cases m : l ∈ fs
        · rw [decide_eq_true m]
          walk_at "rd"
          exact ⟨_, us, fs, rfl, s4, hM, hus, ndf, by omega, keep fun _ => m⟩
        · rw [decide_eq_false m]
          walk_at "rd"
          refine ⟨.inl ⟨rfl, _, sq hM⟩, ?_⟩
          walk_at "rd"
          have ul : us.length = fs.length := by rw [da_len hus, List.length_map]
          refine ⟨D, _, _, rfl, rfl, hM, szl (by omega), ?_⟩
          have tk := tk_lst (K := K) (o := .lst (us ++ [.ref b])) hM
          refine ⟨_, us ++ [.ref b], fs ++ [l], rfl, same_at hD s4, upd_same, ?_, nodup_snoc ndf m, by rw [List.length_append]; show fs.length + 1 ≤ 20 + (i + 1); omega, fun z => ?_⟩
          · rw [List.map_append]
            exact da_app (da_tk tk _ _ (tup_lits _) hus) (da_one (dp_tk tk _ _ rfl dl4))
          · rw [List.mem_append, mem z, mtk z, List.mem_singleton]
            constructor
            · rintro ((a | a) | a)
              · exact .inl a
              · exact .inr ⟨.inl a.1, a.2⟩
              · exact .inr ⟨.inr a, by rw [a]; exact h7⟩
            · rintro (a | ⟨a | a, e⟩)
              · exact .inl (.inl a)
              · exact .inl (.inr ⟨a, e⟩)
              · exact .inr a
      · walk_at "rd"
        exact ⟨_, us, fs, rfl, s4, hM, hus, ndf, by omega, keep fun h => absurd (decide_eq_true h) h6⟩
    rintro σ H4 ⟨o4, us, fs, rfl, s4, hM, hus, ndf, lf, mem⟩
    rw [yl, List.take_length] at mem
    have memL : ∀ l, l ∈ fs ↔ l ∈ lits c d n := fun l => by
      rw [mem l, lits_mem]
      constructor
      · rintro (a | a)
        · exact .inl ⟨a.1, fun e => a.2 (by rw [e])⟩
        · exact .inr ⟨a.1, fun e => a.2 (by rw [e])⟩
      · rintro (a | a)
        · exact .inl ⟨a.1, fun e => a.2 (up_one vc.1 l a.1 _ m1 e)⟩
        · exact .inr ⟨a.1, fun e => a.2 (up_one vd.1 l a.1 _ m2 e)⟩
    have okf : OkC fs := fun z hz => by
      rcases (mem z).mp hz with h | h
      · exact oc z h.1
      · exact od z h.1
    have sgf : ∀ z ∈ fs, z.2 = 0 ∨ z.2 = 1 := fun z hz => by
      rcases (mem z).mp hz with h | h
      · exact (vc.2 z h.1).2
      · exact (vd.2 z h.1).2
    have lf2 : fs.length ≤ 40 := by omega
    have yesC : ∀ o, IsRes c d n o → CutR c d n o := fun o h => by
      unfold CutR
      rw [if_pos ⟨m1, m2⟩]
      exact h
    have ul : us.length = fs.length := by rw [da_len hus, List.length_map]
    walk_at "rd"
    refine ⟨⟨_, sq hM⟩, for_it (walk_list (K := K) (a := D) (xs := us)) (fun i σ H' => ∃ o4 : Option V, σ = [some (.ref p), some (.ref q), some (.str n), some (.ref D), o4] ∧ Same H4 H' ∧ ∀ l ∈ fs.take i, (l.1, 1 - l.2) ∉ fs) ⟨_, rfl, Same.refl H4, fun l hl => (by simp at hl)⟩ (fun i σ H' _ ⟨_, _, s, _⟩ => sq (s _ _ hM)) ?_ ?_⟩
    · rintro i x σ H5 H6 hi ⟨o4, rfl, s5, no⟩ ⟨rfl, hx⟩
      obtain ⟨l, hl, dl⟩ := da_atM hus hx
      obtain ⟨b, rfl, hb⟩ := lit_dp (dp_same s5 dl)
      have lm := List.mem_of_getElem? hl
      walk_at "rd"
      refine ⟨_, _, _, _, rfl, rfl, hb, atI_nat (j := 0) rfl, ?_⟩
      walk_at "rd"
      refine ⟨_, _, _, _, rfl, rfl, hb, atI_nat (j := 1) rfl, ?_⟩
      walk_at "rd"
      refine ⟨sz (by show 2 ≤ 100000; decide), fun T nT => ?_⟩
      have sT := same_new nT (o := .tup [.str l.1, .int (1 - l.2)])
      have hT := upd_same (H := H6) (a := T) (o := .tup [.str l.1, .int (1 - l.2)])
      generalize upd H6 T (.tup [.str l.1, .int (1 - l.2)]) = H7 at sT hT ⊢
      have s57 := s5.trans sT
      walk_at "rd"
      refine ⟨litD (l.1, 1 - l.2), fs.map litD, dp_lit (sqt hT), .lst (sq (s57 _ _ hM)) (dpAll_same s57 hus), sh_lit (l := (l.1, 1 - l.2)) (okf l lm), sh_litsL okf, ?_⟩
      rw [any_lit]
      by_cases m : (l.1, 1 - l.2) ∈ fs
      · rw [decide_eq_true m]
        walk_at "rd"
        refine fin .non none _ (s2.trans (s4.trans s57)) (yesC none ⟨l, (memL l).mp lm, _, (memL _).mp m, rfl, fun e => ?_⟩) rfl
        have z : l.2 = 1 - l.2 := congrArg (·.2) e
        omega
      · rw [decide_eq_false m]
        walk_at "rd"
        refine ⟨s57, fun z hz => ?_⟩
        rw [List.take_add_one, hl] at hz
        rcases List.mem_append.mp hz with h | h
        · exact no z h
        · rw [List.mem_singleton.mp h]
          exact m
    · rintro σ H5 ⟨o4, rfl, s5, no⟩
      rw [ul, List.take_length] at no
      walk_at "rd"
      have hM5 := s5 _ _ hM
      have hus5 := dpAll_same s5 hus
      refine ⟨D, us, fs.map litD, rfl, sq hM5, hus5, all_alike alike_lit fs, fun e he => (by obtain ⟨l, _, rfl⟩ := List.mem_map.mp he; exact ⟨_, rfl⟩), by rw [List.length_map]; exact sz (by omega), fun e he => (by obtain ⟨l, _, rfl⟩ := List.mem_map.mp he; show 1 ≤ 60; decide), fun zs R nR dR => ?_⟩
      have sR := same_new nR (o := .lst zs)
      have hR := upd_same (H := H5) (a := R) (o := .lst zs)
      have dR2 := dpAll_same sR dR
      have pm : ((fs.map litD).mergeSort So.dle).Perm (fs.map litD) := List.mergeSort_perm _ _
      have srt := PySem.W.sort_pairwise dle_total (fs.map litD)
      obtain ⟨ls, els⟩ := unmap (f := litD) (l := (fs.map litD).mergeSort So.dle) fun e he => (by obtain ⟨l, _, e⟩ := List.mem_map.mp (pm.mem_iff.mp he); exact ⟨l, e⟩)
      rw [els] at dR2 pm srt
      have pe : ls.Perm fs := perm_unmap (fun x y e => lit_inj e) pm
      have ndn : (ls.map (·.1)).Nodup := by
        refine List.pairwise_map.mpr ?_
        have ndl : ls.Pairwise fun x y => x ≠ y := pe.nodup_iff.mpr ndf
        refine List.Pairwise.imp_of_mem (fun {a b} ha hb ne e => ?_) ndl
        have fa := pe.mem_iff.mp ha
        have fb := pe.mem_iff.mp hb
        refine no a fa ?_
        have e2 : (a.1, 1 - a.2) = b := Prod.ext e (by
          have x1 := sgf a fa
          have x2 := sgf b fb
          have x3 : a.2 ≠ b.2 := fun z => ne (Prod.ext e z)
          show 1 - a.2 = b.2
          omega)
        rw [e2]
        exact fb
      generalize upd H5 R (.lst zs) = H6 at sR hR dR2 ⊢
      walk_at "rd"
      refine ⟨R, _, rfl, .inl ⟨sq hR, fun t nt => ?_⟩⟩
      have st := same_new nt (o := .tup zs)
      exact fin (.ref t) (some ls) _ (s2.trans (s4.trans (s5.trans (sR.trans st)))) (yesC _ ⟨fun l => pe.mem_iff.trans (memL l), up_of srt ndn⟩) (.tup (sqt upd_same) (dpAll_same st dR2))
end
end K12
namespace K12
local macro_rules | `(tactic| walk_at "rd") => `(tactic| repeat (first | refine ⟨rfl, ?_⟩ | refine ⟨_, rfl, ?_⟩ | refine ⟨_, _, rfl, rfl, ?_⟩ | refine ⟨⟨_, rfl⟩, ?_⟩))
open PySem PySem.Spec PyProof.Rows L2 Bx TL Dx Zx Ow Sup NdefX Px
theorem clAt_none {cs : List Cl} {j : Int} (h : ¬ 0 ≤ j ∨ ¬ j < (cs.length : Nat)) : clAt cs j = none := by
  unfold clAt
  by_cases h0 : 0 ≤ j
  · rw [if_pos h0]
    have h1 := h.resolve_left (fun z => z h0)
    exact List.getElem?_eq_none (by omega)
  · rw [if_neg h0]
theorem der_l {cs bs : List Cl} {j k : Int} {n : Str} (h : clAt bs j = none) : Der cs bs (.cut j k n) none := by
  show (match clAt bs j, clAt bs k with | some c, some d => if (n, (1 : Int)) ∈ c ∧ (n, (0 : Int)) ∈ d then IsRes c d n none else (none : Option Cl) = none | _, _ => (none : Option Cl) = none)
  rw [h]
theorem der_r {cs bs : List Cl} {j k : Int} {n : Str} (h : clAt bs k = none) : Der cs bs (.cut j k n) none := by
  show (match clAt bs j, clAt bs k with | some c, some d => if (n, (1 : Int)) ∈ c ∧ (n, (0 : Int)) ∈ d then IsRes c d n none else (none : Option Cl) = none | _, _ => (none : Option Cl) = none)
  rw [h]
  cases clAt bs j <;> rfl
section
variable {P : Program} {w : World} {K : PySem.W.Frag} {mg : Str → Option Value} {base : Heap}
@[irreducible] def spSome (K : PySem.W.Frag) : Sp := fun vs H Q _ => ∃ (s L : Addr) (ls : List Str) (m : Nat), vs = [.ref s, .ref L, .int (m : Nat)] ∧ Src H s ∧ L ≠ s ∧ H L = some (.lst (ls.map V.str)) ∧ ls.length ≤ 1000 ∧ ∀ (r : Addr) (ms : List Str) (H' : Hp), SameBut s H H' → Src H' s → H' r = some (.lst (ms.map V.str)) → ms.Sublist ls → ms.length ≤ m → Q (.ref r) H'
theorem ok_some {f : Addr} {fd : FuncData} (F : Fun K "_law_some" "_law_some" s__law_some f fd) (m_len : mg "len" = none) (C__law_draw : CDraw P w K mg base) : FnOk P w K mg base CX0 2 f fd ["_law_source_here", "_law_names", "_law_most"] (spSome K) := by
  refine F.ok sc__law_some (fun vs H Q E h => ?_) (fun cdv A outer s H vs Q E hr h => ?_)
  · unfold spSome at h
    obtain ⟨s, L, ls, m, rfl, _⟩ := h
    rfl
  · unfold spSome at h
    obtain ⟨src, L, ls, m, rfl, hA, Ls, hL, ll, q⟩ := h
    refine ⟨_, (pss_cons (ps_set (i := 3) sc__law_some.nd rfl (Or.inl rfl) (pe_lst pa_nil))
    (pss_cons (ps_for PassesOwn.never rfl (pi_list (pv 1)) (pg_name (i := 4) sc__law_some.nd rfl (Or.inl rfl))
      (pss_one (ps_if (PW.pt (pw_and (pt_cmpR op_lt (pe_callB call_len_seq (by rfl) m_len PySem.boot_len (pa_cons (pv 3) pa_nil)) (pv 2) (nomark _)) (pw_and1 (pt_cmpR op_gt (pe_cal C__law_draw (hr.mono (by decide)) (pa_cons (pv 0) (pa_cons pe_int pa_nil))) pe_int (nomark _)))))
      (pss_one (ps_expr (pe_bm PySem.F.plainAttrs_list PySem.F.slot_list_append PySem.F.type_list_append mt_append (pv 3) (pa_cons (pv 4) pa_nil))))
      pss_nil)))
    (pss_one (ps_ret (pv 3))))), ?_⟩
    walk_at "rd"
    refine ⟨sz (by decide), fun M nM => ?_⟩
    have nMs := src_ne hA nM
    have sM := same_new nM (o := .lst ([] : List V))
    have hM := upd_same (H := H) (a := M) (o := .lst ([] : List V))
    have hA1 := src_upd (u := .lst ([] : List V)) hA nMs
    generalize upd H M (.lst []) = H1 at sM hM hA1 ⊢
    have LM : L ≠ M := ne_of_none hL nM
    walk_at "rd"
    refine ⟨⟨_, sq (sM _ _ hL)⟩, for_it (walk_list (K := K) (a := L) (xs := ls.map V.str)) (fun i σ H' => ∃ (o4 : Option V) (ms : List Str), σ = [some (.ref src), some (.ref L), some (.int (m : Nat)), some (.ref M), o4] ∧ SameBut src H H' ∧ Src H' src ∧ H' M = some (.lst (ms.map V.str)) ∧ ms.Sublist (ls.take i) ∧ ms.length ≤ m)
      ⟨none, [], rfl, Bx.Same.but sM, hA1, hM, List.nil_sublist _, Nat.zero_le _⟩ (fun i σ H' _ ⟨_, _, _, s, _⟩ => sq (s _ _ Ls hL)) ?_ ?_⟩
    · rintro i x σ H2a H2 hi ⟨o4, ms, rfl, s2, hA2, hM2, sub, lm⟩ ⟨rfl, hx⟩
      obtain ⟨n, hn, rfl⟩ := at_map hx
      rw [List.length_map] at hi
      have skip := sub_skip (ns := ls) sub
      walk_at "rd"
      refine ⟨M, _, rfl, .inl (sq hM2), ?_⟩
      walk_at "rd"
      refine ite2 (fun h6 => ?_) (fun _ => ?_)
      · have h7 : ms.length < m := by
          have z : (((ms.map V.str).length : Nat) : Int) < (m : Nat) := of_decide_eq_true h6
          rw [List.length_map] at z
          omega
        walk_at "rd"
        refine draw_of (lim := 3) hA2 (by decide) fun r3 H3 _ _ s3 hA3 => ?_
        have hM3 := s3 _ _ nMs.symm hM2
        walk_at "rd"
        refine ite2 (fun _ => ?_) (fun _ => ?_)
        · walk_at "rd"
          refine ⟨.inl ⟨rfl, _, sq hM3⟩, ?_⟩
          walk_at "rd"
          have ml : (ms.map V.str).length ≤ 1000 := by
            rw [List.length_map]
            have z := sub.length_le
            have z2 := List.length_take_le' i ls
            omega
          refine ⟨M, _, _, rfl, rfl, hM3, szl (by omega), ?_⟩
          refine ⟨_, ms ++ [n], rfl, but_at nM (s2.trans s3), src_upd hA3 nMs, by rw [upd_same, List.map_append]; rfl, sub_snoc sub hn, by rw [List.length_append]; show ms.length + 1 ≤ m; omega⟩
        · walk_at "rd"
          exact ⟨_, ms, rfl, s2.trans s3, hA3, hM3, skip, lm⟩
      · walk_at "rd"
        exact ⟨_, ms, rfl, s2, hA2, hM2, skip, lm⟩
    · rintro σ H2 ⟨o4, ms, rfl, s2, hA2, hM2, sub, lm⟩
      rw [List.length_map, List.take_length] at sub
      walk_at "rd"
      exact q M ms H2 s2 hA2 hM2 sub lm
@[irreducible] def spIsInt : Sp := fun vs H Q _ => ∃ i : Int, vs = [.int i] ∧ Q (.bl true) H
theorem ok_is_int {f : Addr} {fd : FuncData} (F : Fun K "_law_is_int" "_law_is_int" s__law_is_int f fd) (m_isinstance : mg "isinstance" = none) (m_int : mg "int" = none) (m_bool : mg "bool" = none) : FnOk P w K mg base CX0 1 f fd ["_law_value"] spIsInt := by
  refine F.ok sc__law_is_int (fun vs H Q E h => ?_) (fun cdv A outer s H vs Q E hr h => ?_)
  · unfold spIsInt at h
    obtain ⟨i, rfl, _⟩ := h
    rfl
  · unfold spIsInt at h
    obtain ⟨i, rfl, q⟩ := h
    refine ⟨_, (pss_one (ps_ret (pe_and (pe_callB (id := "isinstance") call_isi (by rfl) m_isinstance (by decide +kernel) (pa_cons (pv 0) (pa_cons (pe_bltn (v := .ty "int") (by rfl) m_int (by decide +kernel) rfl) pa_nil))) (pe_one (pe_not (pe_callB (id := "isinstance") call_isi (by rfl) m_isinstance (by decide +kernel) (pa_cons (pv 0) (pa_cons (pe_bltn (v := .ty "bool") (by rfl) m_bool (by decide +kernel) rfl) pa_nil)))))))), ?_⟩
    walk_at "rd"
    refine ⟨_, _, _, _, true, rfl, .ty "int", .base (.int _), kit_ty (by decide +kernel), ?_⟩
    walk_at "rd"
    refine ⟨_, _, _, _, false, rfl, .ty "bool", .base (.int _), kit_ty (by decide +kernel), ?_⟩
    walk_at "rd"
    exact q
/-- what a replayed certificate says of the clause -/
def verdict (c : Cl) (r : Option (List Cl)) : Bool := match r with
  | none => false
  | some bs => match bs.getLast? with
    | none => false
    | some b => inC c b
@[irreducible] def spShow (K : PySem.W.Frag) : Sp := fun vs H Q _ => ∃ (T na ca p t : Addr) (xs zs : List V) (ns : List Str) (cs : List Cl) (c : Cl) (lns : List Ln), vs = [.ref T, .ref p, .ref t] ∧ Th K H T na ca xs ns cs ∧ (∀ d ∈ cs, Vc ns d) ∧ (∀ z ∈ ns, Tx 17 z) ∧ ns.length ≤ 20 ∧ cs.length ≤ 1000 ∧ Dp K H (.ref p) (clD c) ∧ OkC c ∧ c.length ≤ 1000 ∧ SqT K H t zs ∧ DpAll K H zs (lns.map lnD) ∧ (∀ x ∈ lns, OkLn x) ∧ lns.length ≤ 1000 ∧
  ∀ (r : Option (List Cl)) (H' : Hp), Same H H' → Run cs [] lns r → Q (.bl (verdict c r)) H'
set_option maxHeartbeats 4000000 in
theorem ok_show {f : Addr} {fd : FuncData} (F : Fun K "_law_bits_show" "_law_bits_show" s__law_bits_show f fd) (m_len : mg "len" = none) (C__law_cut : Cal P w K mg base "_law_cut" 1 ["_law_first", "_law_second", "_law_name"] (spCut K)) : FnOk P w K mg base CX0 2 f fd ["_law_theory_here", "_law_constraint", "_law_certificate"] (spShow K) := by
  refine F.ok sc__law_bits_show (fun vs H Q E h => ?_) (fun cdv A outer s H vs Q E hr h => ?_)
  · unfold spShow at h
    obtain ⟨T, na, ca, p, t, xs, zs, ns, cs, c, lns, rfl, _⟩ := h
    rfl
  · unfold spShow at h
    obtain ⟨T, na, ca, p, t, xs, zs, ns, cs, c, lns, rfl, th, vc, tx, nl, ll, hp, okc, lc, ht, dz, okl, lnl, q⟩ := h
    have zl : zs.length = lns.length := by rw [da_len dz, List.length_map]
    have xl : xs.length = cs.length := by rw [da_len th.d, List.length_map]
    refine ⟨_, (pss_cons (ps_set (i := 3) sc__law_bits_show.nd rfl (Or.inl rfl) (pe_lst pa_nil))
    (pss_cons (ps_for PassesOwn.never rfl (pi_tup (pv 2)) (pg_name (i := 4) sc__law_bits_show.nd rfl (Or.inl rfl))
      (pss_one (ps_if (pt_cmpR op_eq (pe_ix ix_tup (pv 4) pe_int (fun _ _ => rfl)) pe_str (nomark _))
      (pss_cons (ps_if (pt_not (pt_chain op_le op_lt pe_int (pe_ix ix_tup (pv 4) pe_int (fun _ _ => rfl)) (pe_callB call_len_seq (by rfl) m_len PySem.boot_len (pa_cons (pe_ix ix_tup (pv 0) pe_int (fun _ _ => rfl)) pa_nil))))
      (pss_one (ps_ret pe_bl))
      pss_nil)
    (pss_one (ps_expr (pe_bm PySem.F.plainAttrs_list PySem.F.slot_list_append PySem.F.type_list_append mt_append (pv 3) (pa_cons (pe_ix ix_tup (pe_ix ix_tup (pv 0) pe_int (fun _ _ => rfl)) (pe_ix ix_tup (pv 4) pe_int (fun _ _ => rfl)) (fun _ _ => rfl)) pa_nil)))))
      (pss_cons (ps_if (PW.pt (pw_or (pt_not (pt_chain op_le op_lt pe_int (pe_ix ix_tup (pv 4) pe_int (fun _ _ => rfl)) (pe_callB call_len_seq (by rfl) m_len PySem.boot_len (pa_cons (pv 3) pa_nil)))) (pw_or1 (pt_not (pt_chain op_le op_lt pe_int (pe_ix ix_tup (pv 4) pe_int (fun _ _ => rfl)) (pe_callB call_len_seq (by rfl) m_len PySem.boot_len (pa_cons (pv 3) pa_nil)))))))
      (pss_one (ps_ret pe_bl))
      pss_nil)
    (pss_cons (ps_set (i := 5) sc__law_bits_show.nd rfl (Or.inl rfl) (pe_cal C__law_cut (hr.mono (by decide)) (pa_cons (pe_ix ix_list (pv 3) (pe_ix ix_tup (pv 4) pe_int (fun _ _ => rfl)) (fun _ _ => rfl)) (pa_cons (pe_ix ix_list (pv 3) (pe_ix ix_tup (pv 4) pe_int (fun _ _ => rfl)) (fun _ _ => rfl)) (pa_cons (pe_ix ix_tup (pv 4) pe_int (fun _ _ => rfl)) pa_nil)))))
    (pss_cons (ps_if (pt_cmpR op_isN (pv 5) pe_non (nomark _))
      (pss_one (ps_ret pe_bl))
      pss_nil)
    (pss_one (ps_expr (pe_bm PySem.F.plainAttrs_list PySem.F.slot_list_append PySem.F.type_list_append mt_append (pv 3) (pa_cons (pv 5) pa_nil))))))))))
    (pss_cons (ps_if (pt_cmpR op_eq (pe_callB call_len_seq (by rfl) m_len PySem.boot_len (pa_cons (pv 3) pa_nil)) pe_int (nomark _))
      (pss_one (ps_ret pe_bl))
      pss_nil)
    (pss_one (ps_ret (pe_cmpR op_eq (pe_callB call_len_seq (by rfl) m_len PySem.boot_len (pa_cons (pe_lc (own := [("_law_literal", 6)]) rfl sc__law_bits_show.nd (pi_tup (pe_ix ix_list (pv 3) (pe_un un_neg pe_int) (fun _ _ => rfl))) (blkOk_by (N := n__law_bits_show) (sc := defScope s__law_bits_show) (by decide +kernel)) (fun _ _ _ _ _ => pg_name (i := 6) sc__law_bits_show.nd rfl (Or.inl rfl)) (fun _ _ _ _ _ => pts_one (pt_cmpR (Sl.op_notInT (K := K) rfl (room hr)) (pv 6) (pv 1) (by rfl))) (fun _ _ _ _ _ => (pv 6))) pa_nil)) pe_int (nomark _))))))), ?_⟩
    walk_at "rd"
    refine ⟨sz (by decide), fun M nM => ?_⟩
    have sM := same_new nM (o := .lst ([] : List V))
    have hM := upd_same (H := H) (a := M) (o := .lst ([] : List V))
    generalize upd H M (.lst []) = H1 at sM hM ⊢
    walk_at "rd"
    refine ⟨⟨_, Bx.Same.tup sM ht⟩, for_it (walk_tup (K := K) (a := t) (xs := zs)) (fun i σ H' => ∃ (o4 o5 : Option V) (us : List V) (bs : List Cl), σ = [some (.ref T), some (.ref p), some (.ref t), some (.ref M), o4, o5, none] ∧ Same H H' ∧ H' M = some (.lst us) ∧ DpAll K H' us (bs.map clD) ∧ bs.length ≤ i ∧ (∀ d ∈ bs, Vc ns d) ∧ ∀ r, Run cs bs (lns.drop i) r → Run cs [] lns r)
      ⟨none, none, [], [], rfl, sM, hM, .nil, Nat.le_refl _, (fun d hd => by cases hd), fun r h => h⟩ (fun i σ H' _ ⟨_, _, _, _, _, s, _⟩ => Bx.Same.tup s ht) ?_ ?_⟩
    · rintro i x σ H2a H2 hi ⟨o4, o5, us, bs, rfl, s2, hM2, hus, lb, vb, run⟩ ⟨rfl, hx⟩
      have ul : us.length = bs.length := by rw [da_len hus, List.length_map]
      obtain ⟨ln, hl, dl⟩ := da_atM dz hx
      have okln := okl ln (List.mem_of_getElem? hl)
      have dr : lns.drop i = ln :: lns.drop (i + 1) := by
        obtain ⟨h1, h2⟩ := List.getElem?_eq_some_iff.mp hl
        rw [← h2]
        exact List.drop_eq_getElem_cons h1
      rw [dr] at run
      have stop : Der cs bs ln none → Q (.bl false) H2 := fun h => q none H2 s2 (run none (.stop h))
      have th2 := th.same s2
      have dl2 := dp_same s2 dl
      -- one more clause
      have more : ∀ (v : V) (d : Cl) (H3 : Hp), Same H2 H3 → Dp K H3 v (clD d) → Der cs bs ln (some d) → Vc ns d → ∃ (us' : List V) (bs' : List Cl), Same H (upd H3 M (.lst (us ++ [v]))) ∧ (upd H3 M (.lst (us ++ [v]))) M = some (.lst us') ∧ DpAll K (upd H3 M (.lst (us ++ [v]))) us' (bs'.map clD) ∧ bs'.length ≤ i + 1 ∧ (∀ d ∈ bs', Vc ns d) ∧ ∀ r, Run cs bs' (lns.drop (i + 1)) r → Run cs [] lns r := fun v d H3 s3 dv der vd => by
        have hM3 := s3 _ _ hM2
        have tk := tk_lst (K := K) (o := .lst (us ++ [v])) hM3
        refine ⟨us ++ [v], bs ++ [d], same_at nM (s2.trans s3), upd_same, ?_, by rw [List.length_append]; show bs.length + 1 ≤ i + 1; omega, fun e he => ?_, fun r h => run r (.step der h)⟩
        · rw [List.map_append]
          exact da_app (da_tk tk _ _ (tup_cls bs) (dpAll_same s3 hus)) (da_one (dp_tk tk _ _ (show tupD (clD d) = true from tup_lits d) dv))
        · rcases List.mem_append.mp he with h | h
          · exact vb e h
          · rw [List.mem_singleton.mp h]
            exact vd
      walk_at "rd"
      cases ln with
      | giv j =>
        obtain ⟨b, ys, rfl, hb, ha⟩ := dp_tup dl2
        cases ha with
        | cons a1 ha =>
        cases ha with
        | cons a2 ha =>
        cases ha
        cases a1
        cases a2
        refine ⟨_, _, _, _, rfl, rfl, hb, atI_nat (j := 0) rfl, ?_⟩
        walk_at "rd"
        refine ⟨_, _, _, _, rfl, rfl, hb, atI_nat (j := 1) rfl, ?_⟩
        walk_at "rd"
        by_cases h0 : 0 ≤ j
        case neg =>
          rw [decide_eq_false h0]
          walk_at "rd"
          exact stop (clAt_none (.inl h0)).symm
        rw [decide_eq_true h0]
        walk_at "rd"
        refine ⟨_, _, _, _, rfl, rfl, th2.t, atI_nat (j := 1) rfl, ?_⟩
        refine ⟨ca, _, rfl, .inr th2.c, ?_⟩
        walk_at "rd"
        by_cases h1 : j < (xs.length : Nat)
        case neg =>
          rw [decide_eq_false h1]
          walk_at "rd"
          exact stop (clAt_none (.inr (by rw [← xl]; exact h1))).symm
        rw [decide_eq_true h1]
        walk_at "rd"
        obtain ⟨k, rfl⟩ := Int.eq_ofNat_of_zero_le h0
        have hk : k < xs.length := by omega
        have ev := List.getElem?_eq_getElem hk
        obtain ⟨d, hd1, dd⟩ := da_atM th2.d ev
        generalize xs[k] = vd at ev dd
        refine ⟨.inl ⟨rfl, _, sq hM2⟩, ?_⟩
        walk_at "rd"
        refine ⟨_, _, _, _, rfl, rfl, th2.t, atI_nat (j := 1) rfl, ?_⟩
        walk_at "rd"
        refine ⟨_, _, _, _, rfl, rfl, hb, atI_nat (j := 1) rfl, ?_⟩
        refine ⟨_, _, _, _, rfl, rfl, th2.c, atI_nat ev, ?_⟩
        have der : Der cs bs (.giv (k : Nat)) (some d) := by
          show some d = clAt cs (k : Nat)
          unfold clAt
          rw [if_pos (by omega), Int.toNat_natCast]
          exact hd1.symm
        obtain ⟨us', bs', m1, m2, m3, m4, m5, m6⟩ := more vd d H2 (Same.refl H2) dd der (vc d (List.mem_of_getElem? hd1))
        refine ⟨M, _, _, rfl, rfl, hM2, szl (by omega), ?_⟩
        exact ⟨_, _, us', bs', rfl, m1, m2, m3, m4, m5, m6⟩
      | cut j k n =>
        obtain ⟨b, ys, rfl, hb, ha⟩ := dp_tup dl2
        cases ha with
        | cons a1 ha =>
        cases ha with
        | cons a2 ha =>
        cases ha with
        | cons a3 ha =>
        cases ha with
        | cons a4 ha =>
        cases ha
        cases a1
        cases a2
        cases a3
        cases a4
        have okl2 : j.natAbs < 1000000 ∧ k.natAbs < 1000000 ∧ PyData.strOk n = true := okln
        refine ⟨_, _, _, _, rfl, rfl, hb, atI_nat (j := 0) rfl, ?_⟩
        walk_at "rd"
        refine ⟨_, _, _, _, rfl, rfl, hb, atI_nat (j := 1) rfl, ?_⟩
        walk_at "rd"
        by_cases h0 : 0 ≤ j
        case neg =>
          rw [decide_eq_false h0]
          walk_at "rd"
          exact stop (der_l (clAt_none (.inl h0)))
        rw [decide_eq_true h0]
        walk_at "rd"
        refine ⟨M, _, rfl, .inl (sq hM2), ?_⟩
        walk_at "rd"
        by_cases h1 : j < (us.length : Nat)
        case neg =>
          rw [decide_eq_false h1]
          walk_at "rd"
          exact stop (der_l (clAt_none (.inr (by rw [← ul]; exact h1))))
        rw [decide_eq_true h1]
        walk_at "rd"
        refine ⟨_, _, _, _, rfl, rfl, hb, atI_nat (j := 2) rfl, ?_⟩
        walk_at "rd"
        by_cases h2 : 0 ≤ k
        case neg =>
          rw [decide_eq_false h2]
          walk_at "rd"
          exact stop (der_r (clAt_none (.inl h2)))
        rw [decide_eq_true h2]
        walk_at "rd"
        refine ⟨M, _, rfl, .inl (sq hM2), ?_⟩
        walk_at "rd"
        by_cases h3 : k < (us.length : Nat)
        case neg =>
          rw [decide_eq_false h3]
          walk_at "rd"
          exact stop (der_r (clAt_none (.inr (by rw [← ul]; exact h3))))
        rw [decide_eq_true h3]
        walk_at "rd"
        obtain ⟨j, rfl⟩ := Int.eq_ofNat_of_zero_le h0
        obtain ⟨k, rfl⟩ := Int.eq_ofNat_of_zero_le h2
        have ej := List.getElem?_eq_getElem (show j < us.length by omega)
        have ek := List.getElem?_eq_getElem (show k < us.length by omega)
        obtain ⟨c1, hc1, d1⟩ := da_atM hus ej
        obtain ⟨c2, hc2, d2⟩ := da_atM hus ek
        generalize us[j] = v1 at ej d1
        generalize us[k] = v2 at ek d2
        obtain ⟨p1, y1, rfl, _⟩ := dp_tup d1
        obtain ⟨p2, y2, rfl, _⟩ := dp_tup d2
        refine ⟨_, _, _, _, rfl, rfl, hb, atI_nat (j := 1) rfl, ?_⟩
        refine ⟨_, _, _, _, rfl, rfl, sq hM2, atI_nat ej, ?_⟩
        walk_at "rd"
        refine ⟨_, _, _, _, rfl, rfl, hb, atI_nat (j := 2) rfl, ?_⟩
        refine ⟨_, _, _, _, rfl, rfl, sq hM2, atI_nat ek, ?_⟩
        walk_at "rd"
        refine ⟨_, _, _, _, rfl, rfl, hb, atI_nat (j := 3) rfl, ?_⟩
        show spCut K _ _ _ _
        unfold spCut
        refine ⟨p1, p2, c1, c2, n, ns, rfl, d1, d2, vb c1 (List.mem_of_getElem? hc1), vb c2 (List.mem_of_getElem? hc2), tx, nl, okl2.2.2, fun v o H3 s3 hcut hov => ?_⟩
        have der : Der cs bs (.cut (j : Nat) (k : Nat) n) o := by
          show (match clAt bs (j : Nat), clAt bs (k : Nat) with | some c, some d => if (n, (1 : Int)) ∈ c ∧ (n, (0 : Int)) ∈ d then IsRes c d n o else o = none | _, _ => o = none)
          rw [clAt_pre (List.prefix_refl _) hc1, clAt_pre (List.prefix_refl _) hc2]
          exact hcut
        cases o with
        | none =>
          have e : v = .non := hov
          subst e
          walk_at "rd"
          exact q none H3 (s2.trans s3) (run none (.stop der))
        | some d =>
          have dv : Dp K H3 v (clD d) := hov
          obtain ⟨us', bs', m1, m2, m3, m4, m5, m6⟩ := more v d H3 s3 dv der (der_vc vc vb der)
          obtain ⟨pd, yd, rfl, _⟩ := dp_tup dv
          walk_at "rd"
          have hM3 := s3 _ _ hM2
          refine ⟨.inl ⟨rfl, _, sq hM3⟩, ?_⟩
          walk_at "rd"
          refine ⟨M, _, _, rfl, rfl, hM3, szl (by omega), ?_⟩
          exact ⟨_, _, us', bs', rfl, m1, m2, m3, m4, m5, m6⟩
    · rintro σ H2 ⟨o4, o5, us, bs, rfl, s2, hM2, hus, lb, vb, run⟩
      rw [zl, List.drop_length] at run
      have q2 := fun H' s => q (some bs) H' s (run _ (.done bs))
      have ul : us.length = bs.length := by rw [da_len hus, List.length_map]
      walk_at "rd"
      refine ⟨M, _, rfl, .inl (sq hM2), ?_⟩
      walk_at "rd"
      refine ite2 (fun h6 => ?_) (fun h6 => ?_)
      · have e : bs = [] := by
          have z : V.int (us.length : Nat) = V.int 0 := of_decide_eq_true h6
          have z2 : ((us.length : Nat) : Int) = 0 := V.int.inj z
          exact List.length_eq_zero_iff.mp (by omega)
        subst e
        walk_at "rd"
        exact q2 H2 s2
      · have u0 : 0 < us.length := by
          rcases Nat.eq_zero_or_pos us.length with z | z
          · exact absurd (show decide (V.int (us.length : Nat) = V.int 0) = true by rw [z]; rfl) h6
          · exact z
        have ev := List.getElem?_eq_getElem (show us.length - 1 < us.length by omega)
        obtain ⟨b, hb1, db⟩ := da_atM hus ev
        generalize us[us.length - 1] = vb1 at ev db
        obtain ⟨pb, yb, rfl, hpb, hyb⟩ := dp_tup db
        have gl : bs.getLast? = some b := by rw [List.getLast?_eq_getElem?, ← ul]; exact hb1
        obtain ⟨okb, lb20⟩ := vc_ok tx nl (vb b (List.mem_of_getElem? hb1))
        have ybl : yb.length = b.length := by rw [da_len hyb, List.length_map]
        walk_at "rd"
        refine ⟨_, _, _, _, rfl, rfl, sq hM2, at_last ev u0, ?_⟩
        refine ⟨pb, rfl, ⟨_, hpb⟩, fun D hD => ?_⟩
        refine lc_it walk_tup (fun j H' => Same H2 H' ∧ ∃ ws, H' D = some (.lst ws) ∧ ws.length = ((b.take j).filter fun l => !decide (l ∈ c)).length) ⟨same_new hD, [], upd_same, rfl⟩ (fun j H' _ h => Bx.Same.tup h.1 hpb) ?_ ?_
        · rintro j v H3a H3 hj ⟨s3, ws, hW, wl⟩ ⟨rfl, hx⟩
          obtain ⟨l, hl, dl⟩ := da_atM hyb hx
          refine ⟨rfl, ?_⟩
          walk_at "rd"
          refine ⟨litD l, c.map litD, dp_same s3 dl, dp_same (s2.trans s3) hp, sh_lit (okb l (List.mem_of_getElem? hl)), sh_cl okc, ?_⟩
          rw [any_lit]
          refine ⟨_, rfl, ite2 (fun h7 => ?_) (fun h7 => ?_)⟩
          · walk_at "rd"
            have wl2 : ws.length ≤ 20 := by
              rw [wl]
              exact Nat.le_trans (Nat.le_trans (List.length_filter_le _ _) (List.length_take_le' j b)) lb20
            refine ⟨ws, hW, szl (by omega), same_at hD s3, _, upd_same, ?_⟩
            rw [take_filterA hl, List.filter_cons, if_pos h7, List.filter_nil, List.length_append, List.length_append, wl]
            rfl
          · rw [take_filterA hl, List.filter_cons, if_neg h7, List.filter_nil, List.append_nil]
            exact ⟨s3, ws, hW, wl⟩
        rintro H3 ⟨s3, ws, hW, wl⟩
        rw [ybl, List.take_length] at wl
        walk_at "rd"
        refine ⟨D, _, rfl, .inl (sq hW), ?_⟩
        walk_at "rd"
        have e1 : decide (V.int (ws.length : Nat) = V.int 0) = verdict c (some bs) := by
          unfold verdict
          simp only [gl]
          rw [Bool.eq_iff_iff, decide_eq_true_iff]
          unfold inC
          rw [List.all_eq_true]
          constructor
          · intro z x hx
            have z2 : ((ws.length : Nat) : Int) = 0 := V.int.inj z
            have z3 : (b.filter fun l => !decide (l ∈ c)) = [] := List.length_eq_zero_iff.mp (by omega)
            have := List.filter_eq_nil_iff.mp z3 x hx
            simpa using this
          · intro z
            have z3 : (b.filter fun l => !decide (l ∈ c)) = [] := List.filter_eq_nil_iff.mpr fun x hx => by
              have := z x hx
              simpa using this
            rw [z3] at wl
            rw [wl]
            rfl
        show Q (.bl (decide (V.int (ws.length : Nat) = V.int 0))) H3
        rw [e1]
        exact q2 H3 (s2.trans s3)
end
end K12
namespace K12
local macro_rules | `(tactic| walk_at "rd") => `(tactic| repeat (first | refine ⟨rfl, ?_⟩ | refine ⟨_, rfl, ?_⟩ | refine ⟨_, _, rfl, rfl, ?_⟩ | refine ⟨⟨_, rfl⟩, ?_⟩))
open PySem PySem.Spec PyProof.Rows L2 Bx TL Dx Zx Ow Sup NdefX Px
theorem vc_nil (ns : List Str) : Vc ns [] := ⟨List.Pairwise.nil, fun l hl => by cases hl⟩
theorem vc_sub {ns : List Str} {ls : Cl} (asc : Asc ns) (sub : (ls.map (·.1)).Sublist ns) (sg : ∀ l ∈ ls, l.2 = 0 ∨ l.2 = 1) : Vc ns ls := by
  have up3 : (ls.map (·.1)).Pairwise fun x y => x.cps.toList < y.cps.toList := List.Pairwise.sublist sub asc
  exact ⟨(List.pairwise_map (R := fun x y : Str => x.cps.toList < y.cps.toList) (f := fun l : Lit => l.1)).mp up3, fun l hl => ⟨sub.subset (List.mem_map.mpr ⟨l, hl, rfl⟩), sg l hl⟩⟩
section
variable {P : Program} {w : World} {K : PySem.W.Frag} {mg : Str → Option Value} {base : Heap}
@[irreducible] def spClause (K : PySem.W.Frag) : Sp := fun vs H Q _ => ∃ (s na : Addr) (ns : List Str), vs = [.ref s, .ref na] ∧ Src H s ∧ SqT K H na (ns.map V.str) ∧ Asc ns ∧ ns.length ≤ 20 ∧ ∀ (v : V) (c : Cl) (H' : Hp), SameBut s H H' → Src H' s → Dp K H' v (clD c) → Vc ns c → Q v H'
set_option maxHeartbeats 2000000 in
theorem ok_clause {f : Addr} {fd : FuncData} (F : Fun K "_law_clause" "_law_clause" s__law_clause f fd) (m_len : mg "len" = none) (m_tuple : mg "tuple" = none) (C__law_draw : CDraw P w K mg base) : FnOk P w K mg base CX0 2 f fd ["_law_source_here", "_law_names"] (spClause K) := by
  refine F.ok sc__law_clause (fun vs H Q E h => ?_) (fun cdv A outer s H vs Q E hr h => ?_)
  · unfold spClause at h
    obtain ⟨s, na, ns, rfl, _⟩ := h
    rfl
  · unfold spClause at h
    obtain ⟨src, na, ns, rfl, hA, hna, asc, nl, q⟩ := h
    refine ⟨_, (pss_cons (ps_set (i := 2) sc__law_clause.nd rfl (Or.inl rfl) (pe_lst pa_nil))
    (pss_cons (ps_set (i := 3) sc__law_clause.nd rfl (Or.inl rfl) (pe_op op_add pe_int (pe_cal C__law_draw (hr.mono (by decide)) (pa_cons (pv 0) (pa_cons pe_int pa_nil)))))
    (pss_cons (ps_for PassesOwn.never rfl (pi_tup (pv 1)) (pg_name (i := 4) sc__law_clause.nd rfl (Or.inl rfl))
      (pss_cons (ps_set (i := 5) sc__law_clause.nd rfl (Or.inl rfl) (pe_cal C__law_draw (hr.mono (by decide)) (pa_cons (pv 0) (pa_cons (pv 3) pa_nil))))
    (pss_one (ps_if (pt_cmpR op_lt (pv 5) pe_int (nomark _))
      (pss_one (ps_expr (pe_bm PySem.F.plainAttrs_list PySem.F.slot_list_append PySem.F.type_list_append mt_append (pv 2) (pa_cons (pe_tup (pa_cons (pv 4) (pa_cons (pv 5) pa_nil))) pa_nil))))
      pss_nil))))
    (pss_cons (ps_if (PW.pt (pw_and (pt_cmpR op_eq (pe_callB call_len_seq (by rfl) m_len PySem.boot_len (pa_cons (pv 2) pa_nil)) pe_int (nomark _)) (pw_and (pt_cmpR op_gt (pe_callB call_len_seq (by rfl) m_len PySem.boot_len (pa_cons (pv 1) pa_nil)) pe_int (nomark _)) (pw_and1 (pt_cmpR op_gt (pe_cal C__law_draw (hr.mono (by decide)) (pa_cons (pv 0) (pa_cons pe_int pa_nil))) pe_int (nomark _))))))
      (pss_one (ps_expr (pe_bm PySem.F.plainAttrs_list PySem.F.slot_list_append PySem.F.type_list_append mt_append (pv 2) (pa_cons (pe_tup (pa_cons (pe_ix ix_tup (pv 1) (pe_cal C__law_draw (hr.mono (by decide)) (pa_cons (pv 0) (pa_cons (pe_callB call_len_seq (by rfl) m_len PySem.boot_len (pa_cons (pv 1) pa_nil)) pa_nil))) (fun _ _ => rfl)) (pa_cons (pe_cal C__law_draw (hr.mono (by decide)) (pa_cons (pv 0) (pa_cons pe_int pa_nil))) pa_nil))) pa_nil))))
      pss_nil)
    (pss_one (ps_ret (pe_callTy (T := "tuple") call_tuple_of (by rfl) m_tuple (by decide +kernel) (pa_cons (pv 2) pa_nil)))))))), ?_⟩
    walk_at "rd"
    refine ⟨sz (by decide), fun M nM => ?_⟩
    have nMs := src_ne hA nM
    have sM := same_new nM (o := .lst ([] : List V))
    have hM0 := upd_same (H := H) (a := M) (o := .lst ([] : List V))
    have hA1 := src_upd (u := .lst ([] : List V)) hA nMs
    generalize upd H M (.lst []) = H1 at sM hM0 hA1 ⊢
    walk_at "rd"
    refine draw_of (lim := 4) hA1 (by decide) fun r2 H2 h20 h21 s2 hA2 => ?_
    walk_at "rd"
    have hM2 := s2 _ _ nMs.symm hM0
    refine ⟨⟨_, sqt_but hA1 s2 (Bx.Same.tup sM hna)⟩, for_it (walk_tup (K := K) (a := na) (xs := ns.map V.str)) (fun j σ H' => ∃ (o4 o5 : Option V) (vs : List V) (ls : Cl), σ = [some (.ref src), some (.ref na), some (.ref M), some (.int (2 + r2)), o4, o5] ∧ SameBut src H H' ∧ Src H' src ∧ H' M = some (.lst vs) ∧ DpAll K H' vs (ls.map litD) ∧ (ls.map (·.1)).Sublist (ns.take j) ∧ ∀ l ∈ ls, l.2 = 0 ∨ l.2 = 1)
      ⟨none, none, [], [], rfl, (Bx.Same.but sM).trans s2, hA2, hM2, .nil, List.nil_sublist _, fun l hl => (by cases hl)⟩ (fun j σ H' _ ⟨_, _, _, _, _, s, _⟩ => sqt_but hA s hna) ?_ ?_⟩
    · rintro j x σ H3a H3 hj ⟨o4, o5, vs, ls, rfl, s3, hA3, hM3, hd3, sub3, sg3⟩ ⟨rfl, hx⟩
      obtain ⟨n, hn, rfl⟩ := at_map hx
      rw [List.length_map] at hj
      walk_at "rd"
      refine draw_of hA3 ⟨by omega, by omega⟩ fun r4 H4 h4 h5 s4 hA4 => ?_
      have hM4 := s4 _ _ nMs.symm hM3
      have hd4 := da_tk (tk_but hA3 s4) _ _ (tup_lits _) hd3
      walk_at "rd"
      refine ite2 (fun h6 => ?_) (fun h6 => ?_)
      · have h7 : r4 < 2 := of_decide_eq_true h6
        walk_at "rd"
        refine ⟨.inl ⟨rfl, _, sq hM4⟩, ?_⟩
        walk_at "rd"
        refine ⟨sz (by show 2 ≤ 100000; decide), fun T nT => ?_⟩
        have sT := same_new nT (o := .tup [.str n, .int r4])
        have hT := upd_same (H := H4) (a := T) (o := .tup [.str n, .int r4])
        have hA5 := src_same hA4 sT
        have hM5 := sT _ _ hM4
        have hd5 := dpAll_same sT hd4
        have s5 := (s3.trans s4).trans (Bx.Same.but sT)
        generalize upd H4 T (.tup [.str n, .int r4]) = H5 at hT hA5 hM5 hd5 s5 ⊢
        have ll : ls.length ≤ 20 := by
          have z := sub3.length_le
          have z2 := List.length_take_le' j ns
          rw [List.length_map] at z
          omega
        have vl5 : vs.length = ls.length := by rw [da_len hd3, List.length_map]
        walk_at "rd"
        refine ⟨M, _, _, rfl, rfl, hM5, szl (by omega), ?_⟩
        have tk := tk_lst (K := K) (o := .lst (vs ++ [.ref T])) hM5
        refine ⟨_, _, vs ++ [.ref T], ls ++ [(n, r4)], rfl, but_at nM s5, src_upd hA5 nMs, upd_same, ?_, ?_, fun l hl => ?_⟩
        · rw [List.map_append]
          exact da_app (da_tk tk _ _ (tup_lits _) hd5) (da_one (dp_tk tk _ _ rfl (dp_lit (l := (n, r4)) (sqt hT))))
        · rw [List.map_append]
          exact sub_snoc sub3 hn
        · rcases List.mem_append.mp hl with h | h
          · exact sg3 l h
          · rw [List.mem_singleton.mp h]
            show r4 = 0 ∨ r4 = 1
            omega
      · walk_at "rd"
        exact ⟨_, _, vs, ls, rfl, s3.trans s4, hA4, hM4, hd4, sub_skip sub3, sg3⟩
    rintro σ H3 ⟨o4, o5, vs, ls, rfl, s3, hA3, hM3, hd3, sub3, sg3⟩
    rw [List.length_map, List.take_length] at sub3
    have vls := vc_sub asc sub3 sg3
    have vl : vs.length = ls.length := by rw [da_len hd3, List.length_map]
    dsimp only [gName]
    refine st_co (fun H' => SameBut src H H' ∧ Src H' src ∧ ∃ (vs : List V) (ls : Cl), H' M = some (.lst vs) ∧ DpAll K H' vs (ls.map litD) ∧ Vc ns ls) (fun D' hD' => ?_) ?_
    · have keep : ∀ H', SameBut src H3 H' → Src H' src → D'.nx [some (.ref src), some (.ref na), some (.ref M), some (.int (2 + r2)), o4, o5] H' := fun H' s' hA' => hD' H' ⟨s3.trans s', hA', vs, ls, s' _ _ nMs.symm hM3, da_tk (tk_but hA3 s') _ _ (tup_lits _) hd3, vls⟩
      walk_at "rd"
      refine ⟨M, _, rfl, .inl (sq hM3), ?_⟩
      walk_at "rd"
      refine ite2 (fun h6 => ?_) (fun _ => keep H3 (SameBut.refl _ _) hA3)
      have e0 : ls = [] := by
        have z : V.int (vs.length : Nat) = V.int 0 := of_decide_eq_true h6
        have z2 : ((vs.length : Nat) : Int) = 0 := V.int.inj z
        exact List.length_eq_zero_iff.mp (by omega)
      have e1 : vs = [] := List.length_eq_zero_iff.mp (by rw [vl, e0]; rfl)
      subst e0
      subst e1
      have hna3 := sqt_but hA s3 hna
      walk_at "rd"
      refine ⟨na, _, rfl, .inr hna3, ?_⟩
      walk_at "rd"
      refine ite2 (fun h7 => ?_) (fun _ => keep H3 (SameBut.refl _ _) hA3)
      have n0 : 0 < ns.length := by
        have z : (0 : Int) < ((ns.map V.str).length : Nat) := of_decide_eq_true h7
        rw [List.length_map] at z
        omega
      walk_at "rd"
      refine draw_of (lim := 8) hA3 (by decide) fun r4 H4 _ _ s4 hA4 => ?_
      walk_at "rd"
      refine ite2 (fun _ => ?_) (fun _ => keep H4 s4 hA4)
      have hM4 := s4 _ _ nMs.symm hM3
      have hna4 := sqt_but hA3 s4 hna3
      walk_at "rd"
      refine ⟨.inl ⟨rfl, _, sq hM4⟩, ?_⟩
      walk_at "rd"
      refine ⟨na, _, rfl, .inr hna4, ?_⟩
      refine draw_of hA4 ⟨by rw [List.length_map]; omega, by rw [List.length_map]; omega⟩ fun r5 H5 h50 h51 s5 hA5 => ?_
      rw [List.length_map] at h51
      obtain ⟨m, rfl⟩ := Int.eq_ofNat_of_zero_le h50
      have hm : m < ns.length := by omega
      refine ⟨_, _, _, _, rfl, rfl, sqt_but hA4 s5 hna4, atI_nat (by rw [List.getElem?_map, List.getElem?_eq_getElem hm]; rfl), ?_⟩
      have mem : ns[m] ∈ ns := List.getElem_mem hm
      generalize ns[m] = n at mem ⊢
      walk_at "rd"
      refine draw_of (lim := 2) hA5 (by decide) fun r6 H6 h60 h61 s6 hA6 => ?_
      refine ⟨sz (by show 2 ≤ 100000; decide), fun T nT => ?_⟩
      have sT := same_new nT (o := .tup [.str n, .int r6])
      have hT := upd_same (H := H6) (a := T) (o := .tup [.str n, .int r6])
      have hM6 := sT _ _ (s6 _ _ nMs.symm (s5 _ _ nMs.symm hM4))
      have hA7 := src_same hA6 sT
      have s37 := s4.trans (s5.trans (s6.trans (Bx.Same.but sT)))
      generalize upd H6 T (.tup [.str n, .int r6]) = H7 at sT hT hM6 hA7 s37 ⊢
      walk_at "rd"
      refine ⟨M, _, _, rfl, rfl, hM6, szl (by decide), ?_⟩
      have tk := tk_lst (K := K) (o := .lst ([] ++ [.ref T])) hM6
      refine hD' _ ⟨but_at nM (s3.trans s37), src_upd hA7 nMs, [.ref T], [(n, r6)], upd_same, da_one (dp_tk tk _ _ rfl (dp_lit (l := (n, r6)) (sqt hT))), ?_⟩
      exact ⟨List.pairwise_singleton _ _, fun l hl => by rw [List.mem_singleton.mp hl]; exact ⟨mem, by show r6 = 0 ∨ r6 = 1; omega⟩⟩
    rintro H4 ⟨s4, hA4, vs4, ls4, hM4, hd4, v4⟩
    walk_at "rd"
    refine ⟨M, _, rfl, .inl ⟨sq hM4, fun t nt => ?_⟩⟩
    have st := same_new nt (o := .tup vs4)
    exact q (.ref t) ls4 _ (s4.trans (Bx.Same.but st)) (src_same hA4 st) (.tup (sqt upd_same) (dpAll_same st hd4)) v4
/-! ### a theory -/
def NS : List Str := [Str.ofString "a", Str.ofString "a.k", Str.ofString "b", Str.ofString "b1", Str.ofString "c", Str.ofString "z9"]
theorem ns_asc : Asc NS := of_decide_eq_true (p := NS.Pairwise fun (x y : Str) => x.cps.toList < y.cps.toList) (by decide +kernel)
theorem ns_tx : ∀ z ∈ NS, Tx 17 z := by
  have h : (NS.all fun z => decide (1 ≤ z.length) && (decide (z.length ≤ 17) && (tl z).all fun c => decide (c < 0x110000))) = true := by decide +kernel
  intro z hz
  have z2 := List.all_eq_true.mp h z hz
  rw [Bool.and_eq_true, Bool.and_eq_true, decide_eq_true_iff, decide_eq_true_iff, List.all_eq_true] at z2
  exact ⟨z2.1, z2.2.1, fun c hc => of_decide_eq_true (z2.2.2 c hc)⟩
@[irreducible] def spTheory (K : PySem.W.Frag) : Sp := fun vs H Q _ => ∃ s : Addr, vs = [.ref s] ∧ Src H s ∧ ∀ (T na ca : Addr) (xs : List V) (ns : List Str) (cs : List Cl) (H' : Hp), SameBut s H H' → Src H' s → Th K H' T na ca xs ns cs → Asc ns → (∀ z ∈ ns, Tx 17 z) → ns.length ≤ 5 → cs.length ≤ 8 → (∀ c ∈ cs, Vc ns c) → Q (.ref T) H'
set_option maxHeartbeats 2000000 in
theorem ok_theory {f : Addr} {fd : FuncData} (F : Fun K "_law_theory" "_law_theory" s__law_theory f fd) (m_tuple : mg "tuple" = none) (m_range : mg "range" = none) (C__law_draw : CDraw P w K mg base) (C__law_some : Cal P w K mg base "_law_some" 2 ["_law_source_here", "_law_names", "_law_most"] (spSome K)) (C__law_clause : Cal P w K mg base "_law_clause" 2 ["_law_source_here", "_law_names"] (spClause K)) : FnOk P w K mg base CX0 3 f fd ["_law_source_here"] (spTheory K) := by
  refine F.ok sc__law_theory (fun vs H Q E h => ?_) (fun cdv A outer s H vs Q E hr h => ?_)
  · unfold spTheory at h
    obtain ⟨s, rfl, _⟩ := h
    rfl
  · unfold spTheory at h
    obtain ⟨src, rfl, hA, q⟩ := h
    refine ⟨_, (pss_cons (ps_set (i := 1) sc__law_theory.nd rfl (Or.inr rfl) (pe_callTy (T := "tuple") call_tuple_of (by rfl) m_tuple (by decide +kernel) (pa_cons (pe_cal C__law_some (hr.mono (by decide)) (pa_cons (pv 0) (pa_cons (pe_lst (pa_cons pe_str (pa_cons pe_str (pa_cons pe_str (pa_cons pe_str (pa_cons pe_str (pa_cons pe_str pa_nil))))))) (pa_cons pe_int pa_nil)))) pa_nil)))
    (pss_one (ps_ret (pe_tup (pa_cons (pv 1) (pa_cons (pe_callTy (T := "tuple") call_tuple_of (by rfl) m_tuple (by decide +kernel) (pa_cons (pe_lc (own := [("_law_k", 2)]) (tt := tYes) rfl sc__law_theory.nd (pi_range1 (by rfl) m_range (pa_cons (pe_cal C__law_draw (hr.mono (by decide)) (pa_cons (pv 0) (pa_cons pe_int pa_nil))) pa_nil)) (blkOk_by (N := n__law_theory) (sc := defScope s__law_theory) (by decide +kernel)) (fun _ _ _ _ _ => pg_name (i := 2) sc__law_theory.nd rfl (Or.inl rfl)) (fun _ _ _ _ _ => pts_nil) (fun _ _ _ _ _ => (pe_cal C__law_clause (hr.mono (by decide)) (pa_cons (pv 0) (pa_cons (pv 1) pa_nil))))) pa_nil)) pa_nil)))))), ?_⟩
    walk_at "rd"
    refine ⟨sz (by show 6 ≤ 100000; decide), fun L nL => ?_⟩
    have sL := same_new nL (o := .lst (NS.map V.str))
    have hL := upd_same (H := H) (a := L) (o := .lst (NS.map V.str))
    have nLs := src_ne hA nL
    show spSome K [.ref src, .ref L, .int ((5 : Nat) : Int)] (upd H L (.lst (NS.map V.str))) _ _
    have hA1 := src_upd (u := .lst (NS.map V.str)) hA nLs
    generalize upd H L (.lst (NS.map V.str)) = H1 at sL hL hA1 ⊢
    unfold spSome
    refine ⟨src, L, NS, 5, rfl, hA1, nLs.symm, hL, by decide, fun r ns H2 s2 hA2 hr2 sub l5 => ?_⟩
    walk_at "rd"
    refine ⟨r, _, rfl, .inl ⟨sq hr2, fun na nna => ?_⟩⟩
    have s3 := same_new nna (o := .tup (ns.map V.str))
    have hna := upd_same (H := H2) (a := na) (o := .tup (ns.map V.str))
    have hA3 := src_same hA2 s3
    have s03 := (Bx.Same.but sL).trans (s2.trans (Bx.Same.but s3))
    generalize upd H2 na (.tup (ns.map V.str)) = H3 at s3 hna hA3 s03 ⊢
    have asc : Asc ns := List.Pairwise.sublist sub ns_asc
    have tx : ∀ z ∈ ns, Tx 17 z := fun z hz => ns_tx z (sub.subset hz)
    walk_at "rd"
    refine draw_of (lim := 9) hA3 (by decide) fun r4 H4 h40 h41 s4 hA4 => ?_
    walk_at "rd"
    refine ⟨by omega, by omega, fun D hD => ?_⟩
    have nDs := src_ne hA4 hD
    refine lc_it walk_range (fun i H' => SameBut src H4 H' ∧ Src H' src ∧ ∃ (us : List V) (cs : List Cl), H' D = some (.lst us) ∧ DpAll K H' us (cs.map clD) ∧ cs.length = i ∧ ∀ c ∈ cs, Vc ns c) ⟨Bx.Same.but (same_new hD), src_upd hA4 nDs, [], [], upd_same, .nil, rfl, fun c hc => (by cases hc)⟩ (fun _ _ _ _ => trivial) ?_ ?_
    · rintro i v H5a H5 hi ⟨s5, hA5, us, cs, hM, hus, lc, vc⟩ ⟨rfl, rfl⟩
      refine ⟨rfl, ?_⟩
      walk_at "rd"
      show spClause K _ _ _ _
      unfold spClause
      refine ⟨src, na, ns, rfl, hA5, sqt_but hA3 (s4.trans s5) (sqt hna), asc, by omega, fun v c H6 s6 hA6 dv vv => ?_⟩
      have hM6 := s6 _ _ nDs.symm hM
      have ul : us.length = cs.length := by rw [da_len hus, List.length_map]
      have tk := tk_lst (K := K) (o := .lst (us ++ [v])) hM6
      refine ⟨us, hM6, szl (by omega), but_at hD (s5.trans s6), src_upd hA6 nDs, us ++ [v], cs ++ [c], upd_same, ?_, by rw [List.length_append]; show cs.length + 1 = i + 1; omega, fun x hx => ?_⟩
      · rw [List.map_append]
        exact da_app (da_tk tk _ _ (tup_cls cs) (da_tk (tk_but hA5 s6) _ _ (tup_cls cs) hus)) (da_one (dp_tk tk _ _ (show tupD (clD c) = true from tup_lits c) dv))
      · rcases List.mem_append.mp hx with h | h
        · exact vc x h
        · rw [List.mem_singleton.mp h]
          exact vv
    rintro H5 ⟨s5, hA5, us, cs, hM, hus, lc, vc⟩
    walk_at "rd"
    refine ⟨D, _, rfl, .inl ⟨sq hM, fun ca nca => ?_⟩⟩
    have s6 := same_new nca (o := .tup us)
    have hca := upd_same (H := H5) (a := ca) (o := .tup us)
    generalize upd H5 ca (.tup us) = H6 at s6 hca ⊢
    walk_at "rd"
    refine ⟨sz (by show 2 ≤ 100000; decide), fun T nT => ?_⟩
    have s7 := same_new nT (o := .tup [.ref na, .ref ca])
    have hna7 := sqt_but (K := K) hA3 (s4.trans (s5.trans (Bx.Same.but (s6.trans s7)))) (sqt hna)
    exact q T na ca us ns cs _ (s03.trans (s4.trans (s5.trans (Bx.Same.but (s6.trans s7))))) (src_same hA5 (s6.trans s7)) ⟨sqt upd_same, hna7, sqt (s7 _ _ hca), dpAll_same (s6.trans s7) hus⟩ asc tx l5 (by omega) vc
end
end K12
namespace K12
local macro_rules | `(tactic| walk_at "rd") => `(tactic| repeat (first | refine ⟨rfl, ?_⟩ | refine ⟨_, rfl, ?_⟩ | refine ⟨_, _, rfl, rfl, ?_⟩ | refine ⟨⟨_, rfl⟩, ?_⟩))
open PySem PySem.Spec PyProof.Rows L2 Bx TL Dx Zx Ow Sup NdefX Px
section
variable {P : Program} {w : World} {K : PySem.W.Frag} {mg : Str → Option Value} {base : Heap}
/-- the lines and clauses so far -/
def Dl (K : PySem.W.Frag) (src L M : Addr) (H H' : Hp) (cs : List Cl) (m : Nat) : Prop := SameBut src H H' ∧ Src H' src ∧ ∃ (zs us : List V) (lns : List Ln) (bs : List Cl), H' L = some (.lst zs) ∧ DpAll K H' zs (lns.map lnD) ∧ H' M = some (.lst us) ∧ DpAll K H' us (bs.map clD) ∧ Dv cs lns bs ∧ lns.length ≤ m
theorem dl_more {src L M : Addr} {H H' : Hp} {cs : List Cl} {m : Nat} {zs us : List V} {lns : List Ln} {bs : List Cl} {x : Ln} {c : Cl} {v u : V} (nL : H L = none) (nM : H M = none) (LM : L ≠ M) (sL : src ≠ L) (sM : src ≠ M) (s : SameBut src H H') (hA : Src H' src) (hL : H' L = some (.lst zs)) (dz : DpAll K H' zs (lns.map lnD)) (hM : H' M = some (.lst us)) (hus : DpAll K H' us (bs.map clD)) (dv : Dv cs lns bs) (lm : lns.length ≤ m) (dx : Dp K H' v (lnD x)) (dc : Dp K H' u (clD c)) (der : Der cs bs x (some c)) : Dl K src L M H (upd (upd H' L (.lst (zs ++ [v]))) M (.lst (us ++ [u]))) cs (m + 1) := by
  have tk1 := tk_lst (K := K) (o := .lst (zs ++ [v])) hL
  have hM1 : (upd H' L (.lst (zs ++ [v]))) M = some (.lst us) := by rw [upd_ne (Ne.symm LM)]; exact hM
  have tk2 := tk_lst (K := K) (o := .lst (us ++ [u])) hM1
  have tk := tk1.trans tk2
  have tx : ∀ y : Ln, tupD (lnD y) = true := fun y => by cases y <;> rfl
  refine ⟨but_at nM (but_at nL s), src_upd (src_upd hA sL) sM, zs ++ [v], us ++ [u], lns ++ [x], bs ++ [c], by rw [upd_ne LM, upd_same], ?_, upd_same, ?_, dv_app dv der, by rw [List.length_append]; show lns.length + 1 ≤ m + 1; omega⟩
  · rw [List.map_append]
    exact da_app (da_tk tk _ _ (tup_lns lns) dz) (da_one (dp_tk tk _ _ (tx x) dx))
  · rw [List.map_append]
    exact da_app (da_tk tk _ _ (tup_cls bs) hus) (da_one (dp_tk tk _ _ (show tupD (clD c) = true from tup_lits c) dc))
@[irreducible] def spLDer (K : PySem.W.Frag) : Sp := fun vs H Q _ => ∃ (s T na ca : Addr) (xs : List V) (ns : List Str) (cs : List Cl), vs = [.ref s, .ref T] ∧ Src H s ∧ Th K H T na ca xs ns cs ∧ (∀ z ∈ ns, Tx 17 z) ∧ ns.length ≤ 5 ∧ cs.length ≤ 8 ∧ (∀ c ∈ cs, Vc ns c) ∧
  ∀ (r t M : Addr) (zs us : List V) (lns : List Ln) (bs : List Cl) (H' : Hp), SameBut s H H' → Src H' s → SqT K H' r [.ref t, .ref M] → SqT K H' t zs → DpAll K H' zs (lns.map lnD) → M ≠ s → H' M = some (.lst us) → DpAll K H' us (bs.map clD) → Dv cs lns bs → lns.length ≤ 20 → Q (.ref r) H'
set_option maxHeartbeats 4000000 in
theorem ok_lderived {f : Addr} {fd : FuncData} (F : Fun K "_law_derived" "_law_derived" s__law_derived f fd) (m_len : mg "len" = none) (m_range : mg "range" = none) (m_int : mg "int" = none) (m_tuple : mg "tuple" = none) (C__law_draw : CDraw P w K mg base) (C__law_cut : Cal P w K mg base "_law_cut" 1 ["_law_first", "_law_second", "_law_name"] (spCut K)) : FnOk P w K mg base CX0 2 f fd ["_law_source_here", "_law_theory_here"] (spLDer K) := by
  refine F.ok sc__law_derived (fun vs H Q E h => ?_) (fun cdv A outer s H vs Q E hr h => ?_)
  · unfold spLDer at h
    obtain ⟨s, T, na, ca, xs, ns, cs, rfl, _⟩ := h
    rfl
  · unfold spLDer at h
    obtain ⟨src, T, na, ca, xs, ns, cs, rfl, hA, th, tx, nl, lc, vc, q⟩ := h
    have xl : xs.length = cs.length := by rw [da_len th.d, List.length_map]
    have thb : ∀ {H' : Hp}, SameBut src H H' → Th K H' T na ca xs ns cs := fun s => ⟨sqt_but hA s th.t, sqt_but hA s th.n, sqt_but hA s th.c, da_tk (tk_but hA s) _ _ (tup_cls cs) th.d⟩
    refine ⟨_, (pss_cons (ps_set (i := 2) sc__law_derived.nd rfl (Or.inl rfl) (pe_lst pa_nil))
    (pss_cons (ps_set (i := 3) sc__law_derived.nd rfl (Or.inr rfl) (pe_lst pa_nil))
    (pss_cons (ps_for PassesOwn.never rfl (pi_range1 (by rfl) m_range (pa_cons (pe_callB call_len_seq (by rfl) m_len PySem.boot_len (pa_cons (pe_ix ix_tup (pv 1) pe_int (fun _ _ => rfl)) pa_nil)) pa_nil)) (pg_name (i := 4) sc__law_derived.nd rfl (Or.inl rfl))
      (pss_one (ps_if (pt_cmpR op_gt (pe_cal C__law_draw (hr.mono (by decide)) (pa_cons (pv 0) (pa_cons pe_int pa_nil))) pe_int (nomark _))
      (pss_cons (ps_expr (pe_bm PySem.F.plainAttrs_list PySem.F.slot_list_append PySem.F.type_list_append mt_append (pv 2) (pa_cons (pe_tup (pa_cons pe_str (pa_cons (pv 4) pa_nil))) pa_nil)))
    (pss_one (ps_expr (pe_bm PySem.F.plainAttrs_list PySem.F.slot_list_append PySem.F.type_list_append mt_append (pv 3) (pa_cons (pe_ix ix_tup (pe_ix ix_tup (pv 1) pe_int (fun _ _ => rfl)) (pv 4) (fun _ _ => rfl)) pa_nil)))))
      pss_nil)))
    (pss_cons (ps_for PassesOwn.never rfl (pi_range1 (by rfl) m_range (pa_cons (pe_op op_mul pe_int (pe_callTy (T := "int") call_int1 (by rfl) m_int (by decide +kernel) (pa_cons (pe_cmpR op_gt (pe_callB call_len_seq (by rfl) m_len PySem.boot_len (pa_cons (pe_ix ix_tup (pv 1) pe_int (fun _ _ => rfl)) pa_nil)) pe_int (nomark _)) pa_nil))) pa_nil)) (pg_name (i := 4) sc__law_derived.nd rfl (Or.inl rfl))
      (pss_cons (ps_set (i := 5) sc__law_derived.nd rfl (Or.inr rfl) (pe_ix ix_tup (pe_ix ix_tup (pv 1) pe_int (fun _ _ => rfl)) (pe_cal C__law_draw (hr.mono (by decide)) (pa_cons (pv 0) (pa_cons (pe_callB call_len_seq (by rfl) m_len PySem.boot_len (pa_cons (pe_ix ix_tup (pv 1) pe_int (fun _ _ => rfl)) pa_nil)) pa_nil))) (fun _ _ => rfl)))
    (pss_cons (ps_setLc (i := 6) (own := [("_law_at", 11)]) rfl sc__law_derived.nd rfl rfl (sw_true rfl rfl rfl (by decide +kernel)) (pi_range1 (by rfl) m_range (pa_cons (pe_callB call_len_seq (by rfl) m_len PySem.boot_len (pa_cons (pv 3) pa_nil)) pa_nil)) (blkOk_by (N := n__law_derived) (sc := defScope s__law_derived) (by decide +kernel)) (fun _ _ _ _ _ => pg_name (i := 11) sc__law_derived.nd rfl (Or.inl rfl)) (fun _ _ _ _ _ => pts_one (pt_cmpR (Sl.op_inT (K := K) rfl (room hr)) (pe_tup (pa_cons (pv 5) (pa_cons pe_int pa_nil))) (pe_ix (ix_listK (K := K) rfl) (pv 3) (pv 11) (fun _ _ => rfl)) (by rfl))) (fun _ _ _ _ _ => (pv 11)))
    (pss_cons (ps_setLc (i := 7) (own := [("_law_at", 11)]) rfl sc__law_derived.nd rfl rfl (sw_true rfl rfl rfl (by decide +kernel)) (pi_range1 (by rfl) m_range (pa_cons (pe_callB call_len_seq (by rfl) m_len PySem.boot_len (pa_cons (pv 3) pa_nil)) pa_nil)) (blkOk_by (N := n__law_derived) (sc := defScope s__law_derived) (by decide +kernel)) (fun _ _ _ _ _ => pg_name (i := 11) sc__law_derived.nd rfl (Or.inl rfl)) (fun _ _ _ _ _ => pts_one (pt_cmpR (Sl.op_inT (K := K) rfl (room hr)) (pe_tup (pa_cons (pv 5) (pa_cons pe_int pa_nil))) (pe_ix (ix_listK (K := K) rfl) (pv 3) (pv 11) (fun _ _ => rfl)) (by rfl))) (fun _ _ _ _ _ => (pv 11)))
    (pss_one (ps_if (PW.pt (pw_and (pt_cmpR op_gt (pe_callB call_len_seq (by rfl) m_len PySem.boot_len (pa_cons (pv 6) pa_nil)) pe_int (nomark _)) (pw_and1 (pt_cmpR op_gt (pe_callB call_len_seq (by rfl) m_len PySem.boot_len (pa_cons (pv 7) pa_nil)) pe_int (nomark _)))))
      (pss_cons (ps_set (i := 8) sc__law_derived.nd rfl (Or.inl rfl) (pe_ix ix_list (pv 6) (pe_cal C__law_draw (hr.mono (by decide)) (pa_cons (pv 0) (pa_cons (pe_callB call_len_seq (by rfl) m_len PySem.boot_len (pa_cons (pv 6) pa_nil)) pa_nil))) (fun _ _ => rfl)))
    (pss_cons (ps_set (i := 9) sc__law_derived.nd rfl (Or.inl rfl) (pe_ix ix_list (pv 7) (pe_cal C__law_draw (hr.mono (by decide)) (pa_cons (pv 0) (pa_cons (pe_callB call_len_seq (by rfl) m_len PySem.boot_len (pa_cons (pv 7) pa_nil)) pa_nil))) (fun _ _ => rfl)))
    (pss_cons (ps_set (i := 10) sc__law_derived.nd rfl (Or.inl rfl) (pe_cal C__law_cut (hr.mono (by decide)) (pa_cons (pe_ix ix_list (pv 3) (pv 8) (fun _ _ => rfl)) (pa_cons (pe_ix ix_list (pv 3) (pv 9) (fun _ _ => rfl)) (pa_cons (pv 5) pa_nil)))))
    (pss_one (ps_if (pt_cmpR op_notN (pv 10) pe_non (nomark _))
      (pss_cons (ps_expr (pe_bm PySem.F.plainAttrs_list PySem.F.slot_list_append PySem.F.type_list_append mt_append (pv 2) (pa_cons (pe_tup (pa_cons pe_str (pa_cons (pv 8) (pa_cons (pv 9) (pa_cons (pv 5) pa_nil))))) pa_nil)))
    (pss_one (ps_expr (pe_bm PySem.F.plainAttrs_list PySem.F.slot_list_append PySem.F.type_list_append mt_append (pv 3) (pa_cons (pv 10) pa_nil)))))
      pss_nil)))))
      pss_nil))))))
    (pss_one (ps_ret (pe_tup (pa_cons (pe_callTy (T := "tuple") call_tuple_of (by rfl) m_tuple (by decide +kernel) (pa_cons (pv 2) pa_nil)) (pa_cons (pv 3) pa_nil))))))))), ?_⟩
    walk_at "rd"
    refine ⟨sz (by decide), fun L nL => ?_⟩
    have sL := src_ne hA nL
    have u1 := same_new nL (o := .lst ([] : List V))
    have hL1 := upd_same (H := H) (a := L) (o := .lst ([] : List V))
    generalize upd H L (.lst []) = H1 at u1 hL1 ⊢
    walk_at "rd"
    refine ⟨sz (by decide), fun M nM1 => ?_⟩
    have nM : H M = none := u1.free nM1
    have sM := src_ne hA nM
    have LM : L ≠ M := ne_of_none hL1 nM1
    have u2 := same_new nM1 (o := .lst ([] : List V))
    have hM2 := upd_same (H := H1) (a := M) (o := .lst ([] : List V))
    have hL2 := u2 _ _ hL1
    have u02 := u1.trans u2
    generalize upd H1 M (.lst []) = H2 at u2 hM2 hL2 u02 ⊢
    have d0 : Dl K src L M H H2 cs 0 := ⟨Bx.Same.but u02, src_same hA u02, [], [], [], [], hL2, .nil, hM2, .nil, dv_nil cs, Nat.le_refl _⟩
    have th2 := th.same u02
    walk_at "rd"
    refine ⟨_, _, _, _, rfl, rfl, th2.t, atI_nat (j := 1) rfl, ?_⟩
    refine ⟨ca, _, rfl, .inr th2.c, ?_⟩
    walk_at "rd"
    refine ⟨by omega, by omega, for_it walk_range (fun i σ H' => ∃ o4 : Option V, σ = [some (.ref src), some (.ref T), some (.ref L), some (.ref M), o4, none, none, none, none, none, none, none] ∧ Dl K src L M H H' cs i) ⟨none, rfl, d0⟩ (fun _ _ _ _ _ => trivial) ?_ ?_⟩
    · rintro i x σ H3a H3 hi ⟨o4, rfl, s3, hA3, zs, us, lns, bs, hL3, dz3, hM3, hus3, dv, lm⟩ ⟨rfl, rfl⟩
      have hi2 : i < xs.length := by omega
      walk_at "rd"
      refine draw_of (lim := 4) hA3 (by decide) fun r4 H4 _ _ s4 hA4 => ?_
      have s04 := s3.trans s4
      have tk4 := tk_but (K := K) hA3 s4
      have hL4 := s4 _ _ sL.symm hL3
      have hM4 := s4 _ _ sM.symm hM3
      have dz4 := da_tk tk4 _ _ (tup_lns lns) dz3
      have hus4 := da_tk tk4 _ _ (tup_cls bs) hus3
      have zl : zs.length = lns.length := by rw [da_len dz3, List.length_map]
      have ul : us.length = bs.length := by rw [da_len hus3, List.length_map]
      have lb := dv.1
      walk_at "rd"
      refine ite2 (fun _ => ?_) (fun _ => ?_)
      · walk_at "rd"
        refine ⟨.inl ⟨rfl, _, sq hL4⟩, ?_⟩
        walk_at "rd"
        refine ⟨sz (by show 2 ≤ 100000; decide), fun U nU => ?_⟩
        have sU := same_new nU (o := .tup [.str (Str.ofString "given"), .int (0 + (i : Nat))])
        have hU : Dp K (upd H4 U (.tup [.str (Str.ofString "given"), .int (0 + (i : Nat))])) (.ref U) (lnD (.giv (0 + (i : Nat)))) := .tup (sqt upd_same) (.cons (.str _) (da_one (.int _)))
        generalize upd H4 U (.tup [.str (Str.ofString "given"), .int (0 + (i : Nat))]) = H5 at sU hU ⊢
        have s05 := s04.trans (Bx.Same.but sU)
        have hL5 := sU _ _ hL4
        have hM5 := sU _ _ hM4
        have th5 := thb s05
        have ev := List.getElem?_eq_getElem hi2
        obtain ⟨c, hc1, dc⟩ := da_atM th5.d ev
        generalize xs[i] = vc0 at ev dc
        have der : Der cs bs (.giv (0 + (i : Nat))) (some c) := by
          show some c = clAt cs (0 + (i : Nat))
          unfold clAt
          rw [if_pos (by omega), Int.zero_add, Int.toNat_natCast]
          exact hc1.symm
        have fin := dl_more nL nM LM sL sM s05 (src_same hA4 sU) hL5 (dpAll_same sU dz4) hM5 (dpAll_same sU hus4) dv lm hU dc der
        walk_at "rd"
        refine ⟨L, _, _, rfl, rfl, hL5, szl (by omega), ?_⟩
        have hM6 : (upd H5 L (.lst (zs ++ [.ref U]))) M = some (.lst us) := by rw [upd_ne (Ne.symm LM)]; exact hM5
        have tk6 := tk_lst (K := K) (o := .lst (zs ++ [.ref U])) hL5
        walk_at "rd"
        refine ⟨.inl ⟨rfl, _, sq hM6⟩, ?_⟩
        walk_at "rd"
        refine ⟨_, _, _, _, rfl, rfl, tk6 _ _ th5.t, atI_nat (j := 1) rfl, ?_⟩
        walk_at "rd"
        refine ⟨_, _, _, _, rfl, rfl, tk6 _ _ th5.c, (by rw [Int.zero_add]; exact atI_nat ev), ?_⟩
        refine ⟨M, _, _, rfl, rfl, hM6, szl (by omega), ?_⟩
        exact ⟨_, rfl, fin⟩
      · walk_at "rd"
        exact (show Dl K src L M H H4 cs (i + 1) from ⟨s04, hA4, zs, us, lns, bs, hL4, dz4, hM4, hus4, dv, by omega⟩)
    rintro σ H3 ⟨o4, rfl, dl3⟩
    have th3 := thb dl3.1
    have le8 : (((xs.length : Nat) : Int) - 0).toNat ≤ 8 := by omega
    walk_at "rd"
    refine ⟨_, _, _, _, rfl, rfl, th3.t, atI_nat (j := 0) rfl, ?_⟩
    refine ⟨na, _, rfl, .inr th3.n, ?_⟩
    walk_at "rd"
    refine .inr ⟨_, rfl, ?_⟩
    walk_at "rd"
    refine ⟨.inl ⟨by decide, by decide⟩, ?_⟩
    walk_at "rd"
    rw [List.length_map]
    have le12 : (12 * (if decide ((0 : Int) < (ns.length : Nat)) = true then (1 : Int) else 0) - 0).toNat ≤ 12 := by split <;> omega
    refine ⟨by split <;> omega, by split <;> omega, for_it walk_range (fun i σ H' => ∃ (o4 o5 o6 o7 o8 o9 o10 : Option V), σ = [some (.ref src), some (.ref T), some (.ref L), some (.ref M), o4, o5, o6, o7, o8, o9, o10, none] ∧ Dl K src L M H H' cs (8 + i)) ⟨o4, none, none, none, none, none, none, rfl, dl3.1, dl3.2.1, ?_⟩ (fun _ _ _ _ _ => trivial) ?_ ?_⟩
    · obtain ⟨_, _, zs, us, lns, bs, a1, a2, a3, a4, a5, a6⟩ := dl3
      exact ⟨zs, us, lns, bs, a1, a2, a3, a4, a5, by omega⟩
    · rintro i x σ H4a H4 hi ⟨o4, o5, o6, o7, o8, o9, o10, rfl, s3, hA3, zs, us, lns, bs, hL3, dz3, hM3, hus3, dv, lm⟩ ⟨rfl, rfl⟩
      have n0 : 0 < ns.length := by
        rcases Nat.eq_zero_or_pos ns.length with z | z
        · rw [z, decide_eq_false (show ¬ (0 : Int) < ((0 : Nat) : Int) by decide), if_neg Bool.false_ne_true] at hi
          have hi2 : i < 0 := hi
          omega
        · exact z
      have zl : zs.length = lns.length := by rw [da_len dz3, List.length_map]
      have ul : us.length = bs.length := by rw [da_len hus3, List.length_map]
      have lb := dv.1
      have th4 := thb s3
      walk_at "rd"
      refine ⟨_, _, _, _, rfl, rfl, th4.t, atI_nat (j := 0) rfl, ?_⟩
      walk_at "rd"
      refine ⟨_, _, _, _, rfl, rfl, th4.t, atI_nat (j := 0) rfl, ?_⟩
      refine ⟨na, _, rfl, .inr th4.n, ?_⟩
      refine draw_of hA3 ⟨by rw [List.length_map]; omega, by rw [List.length_map]; omega⟩ fun r5 H5 h50 h51 s5 hA5 => ?_
      rw [List.length_map] at h51
      obtain ⟨m, rfl⟩ := Int.eq_ofNat_of_zero_le h50
      have hm : m < ns.length := by omega
      have s35 := s3.trans s5
      have th5 := thb s35
      refine ⟨_, _, _, _, rfl, rfl, th5.n, atI_nat (by rw [List.getElem?_map, List.getElem?_eq_getElem hm]; rfl), ?_⟩
      have mem : ns[m] ∈ ns := List.getElem_mem hm
      generalize ns[m] = n at mem ⊢
      have okn := (tx n mem).ok
      have tk5 := tk_but (K := K) hA3 s5
      replace hL3 := s5 _ _ sL.symm hL3
      replace hM3 := s5 _ _ sM.symm hM3
      replace dz3 := da_tk tk5 _ _ (tup_lns lns) dz3
      replace hus3 := da_tk tk5 _ _ (tup_cls bs) hus3
      clear s5 tk5 hA3
      walk_at "rd"
      refine ⟨M, _, rfl, .inl (sq ((Same.refl H5) _ _ hM3)), ?_⟩
      walk_at "rd"
      refine ⟨by omega, by omega, fun D1 hD1 => ?_⟩
      refine lc_it walk_range (fun j H' => Same H5 H' ∧ ∃ is : List Nat, H' D1 = some (.lst (is.map fun (i : Nat) => V.int (i : Nat))) ∧ is.length ≤ j ∧ ∀ i ∈ is, ∃ c, bs[i]? = some c ∧ (n, (1 : Int)) ∈ c) ⟨same_new hD1, [], upd_same, Nat.le_refl _, fun i hi => (by cases hi)⟩ (fun _ _ _ _ => trivial) ?_ ?_
      · rintro j v H6a H6 hj ⟨s6, is, hI, il, mem⟩ ⟨rfl, rfl⟩
        have s36 := (Same.refl H5).trans s6
        have hj2 : j < us.length := by omega
        have ev := List.getElem?_eq_getElem hj2
        obtain ⟨c, hc1, dc⟩ := da_atM hus3 ev
        generalize us[j] = uj at ev dc
        obtain ⟨oc, _⟩ := vc_ok tx (by omega) (dv_vc vc dv j c hc1)
        refine ⟨rfl, ?_⟩
        walk_at "rd"
        refine ⟨sz (by show 2 ≤ 100000; decide), fun T1 nT1 => ?_⟩
        have sT := same_new nT1 (o := .tup [.str n, .int 1])
        have hT := upd_same (H := H6) (a := T1) (o := .tup [.str n, .int 1])
        generalize upd H6 T1 (.tup [.str n, .int 1]) = H7 at sT hT ⊢
        have s37 := s36.trans sT
        walk_at "rd"
        refine ⟨_, _, _, _, rfl, rfl, sq (s37 _ _ hM3), (by rw [Int.zero_add]; exact atI_nat ev), ?_⟩
        refine ⟨litD (n, 1), c.map litD, dp_lit (sqt hT), dp_same s37 dc, sh_lit (l := (n, 1)) okn, sh_cl oc, ?_⟩
        rw [any_lit]
        refine ⟨_, rfl, ite2 (fun h6 => ?_) (fun _ => ⟨s6.trans sT, is, sT _ _ hI, by omega, mem⟩)⟩
        walk_at "rd"
        refine ⟨_, sT _ _ hI, ?_, same_at hD1 (s6.trans sT), is ++ [j], ?_, by rw [List.length_append]; show is.length + 1 ≤ j + 1; omega, fun i hi => ?_⟩
        · rw [List.length_map]
          exact szl (by omega)
        · rw [upd_same, List.map_append]
          show some (HO.lst (_ ++ [V.int (0 + (j : Nat))])) = some (HO.lst (_ ++ [V.int (j : Nat)]))
          rw [Int.zero_add]
        · rcases List.mem_append.mp hi with h | h
          · exact mem i h
          · rw [List.mem_singleton.mp h]
            exact ⟨c, hc1, of_decide_eq_true h6⟩
      rintro H8 ⟨sH8, is1, hI1, il1, mem1⟩
      walk_at "rd"
      refine ⟨M, _, rfl, .inl (sq (sH8 _ _ hM3)), ?_⟩
      walk_at "rd"
      refine ⟨by omega, by omega, fun D0 hD0 => ?_⟩
      refine lc_it walk_range (fun j H' => Same H8 H' ∧ ∃ is : List Nat, H' D0 = some (.lst (is.map fun (i : Nat) => V.int (i : Nat))) ∧ is.length ≤ j ∧ ∀ i ∈ is, ∃ c, bs[i]? = some c ∧ (n, (0 : Int)) ∈ c) ⟨same_new hD0, [], upd_same, Nat.le_refl _, fun i hi => (by cases hi)⟩ (fun _ _ _ _ => trivial) ?_ ?_
      · rintro j v H6a H6 hj ⟨s6, is, hI, il, mem⟩ ⟨rfl, rfl⟩
        have s36 := sH8.trans s6
        have hj2 : j < us.length := by omega
        have ev := List.getElem?_eq_getElem hj2
        obtain ⟨c, hc1, dc⟩ := da_atM hus3 ev
        generalize us[j] = uj at ev dc
        obtain ⟨oc, _⟩ := vc_ok tx (by omega) (dv_vc vc dv j c hc1)
        refine ⟨rfl, ?_⟩
        walk_at "rd"
        refine ⟨sz (by show 2 ≤ 100000; decide), fun T1 nT1 => ?_⟩
        have sT := same_new nT1 (o := .tup [.str n, .int 0])
        have hT := upd_same (H := H6) (a := T1) (o := .tup [.str n, .int 0])
        generalize upd H6 T1 (.tup [.str n, .int 0]) = H7 at sT hT ⊢
        have s37 := s36.trans sT
        walk_at "rd"
        refine ⟨_, _, _, _, rfl, rfl, sq (s37 _ _ hM3), (by rw [Int.zero_add]; exact atI_nat ev), ?_⟩
        refine ⟨litD (n, 0), c.map litD, dp_lit (sqt hT), dp_same s37 dc, sh_lit (l := (n, 0)) okn, sh_cl oc, ?_⟩
        rw [any_lit]
        refine ⟨_, rfl, ite2 (fun h6 => ?_) (fun _ => ⟨s6.trans sT, is, sT _ _ hI, by omega, mem⟩)⟩
        walk_at "rd"
        refine ⟨_, sT _ _ hI, ?_, same_at hD0 (s6.trans sT), is ++ [j], ?_, by rw [List.length_append]; show is.length + 1 ≤ j + 1; omega, fun i hi => ?_⟩
        · rw [List.length_map]
          exact szl (by omega)
        · rw [upd_same, List.map_append]
          show some (HO.lst (_ ++ [V.int (0 + (j : Nat))])) = some (HO.lst (_ ++ [V.int (j : Nat)]))
          rw [Int.zero_add]
        · rcases List.mem_append.mp hi with h | h
          · exact mem i h
          · rw [List.mem_singleton.mp h]
            exact ⟨c, hc1, of_decide_eq_true h6⟩
      rintro H9 ⟨sH9, is0, hI0, il0, mem0⟩
      have s59 := sH8.trans sH9
      have hA9 := src_same hA5 s59
      have hL9 := s59 _ _ hL3
      have hM9 := s59 _ _ hM3
      have dz9 := dpAll_same s59 dz3
      have hus9 := dpAll_same s59 hus3
      have s09 := s35.trans (Bx.Same.but s59)
      have hI19 := sH9 _ _ hI1
      have stay : ∀ H', SameBut src H9 H' → Src H' src → Dl K src L M H H' cs (8 + (i + 1)) := fun H' s' a => ⟨s09.trans s', a, zs, us, lns, bs, s' _ _ sL.symm hL9, da_tk (tk_but hA9 s') _ _ (tup_lns lns) dz9, s' _ _ sM.symm hM9, da_tk (tk_but hA9 s') _ _ (tup_cls bs) hus9, dv, by omega⟩
      walk_at "rd"
      refine ⟨D1, _, rfl, .inl (sq hI19), ?_⟩
      walk_at "rd"
      refine ite2 (fun h6 => ?_) (fun _ => by walk_at "rd"; exact ⟨_, _, _, _, _, _, _, rfl, stay H9 (SameBut.refl _ _) hA9⟩)
      walk_at "rd"
      refine ⟨D0, _, rfl, .inl (sq hI0), ?_⟩
      walk_at "rd"
      refine ite2 (fun h7 => ?_) (fun _ => by walk_at "rd"; exact ⟨_, _, _, _, _, _, _, rfl, stay H9 (SameBut.refl _ _) hA9⟩)
      have z1 : (0 : Int) < ((is1.map fun (i : Nat) => V.int (i : Nat)).length : Nat) := of_decide_eq_true h6
      have z0 : (0 : Int) < ((is0.map fun (i : Nat) => V.int (i : Nat)).length : Nat) := of_decide_eq_true h7
      rw [List.length_map] at z1 z0
      have nD1 := src_ne hA5 hD1
      have nD0 := src_ne (src_same hA5 sH8) hD0
      walk_at "rd"
      refine ⟨D1, _, rfl, .inl (sq hI19), ?_⟩
      refine draw_of hA9 ⟨by rw [List.length_map]; omega, by rw [List.length_map]; omega⟩ fun r10 H10 h100 h101 s10 hA10 => ?_
      rw [List.length_map] at h101
      obtain ⟨a, rfl⟩ := Int.eq_ofNat_of_zero_le h100
      have ha : a < is1.length := by omega
      refine ⟨_, _, _, _, rfl, rfl, sq (s10 _ _ nD1.symm hI19), atI_nat (by rw [List.getElem?_map, List.getElem?_eq_getElem ha]; rfl), ?_⟩
      obtain ⟨c1, hc1, m1⟩ := mem1 is1[a] (List.getElem_mem ha)
      generalize is1[a] = ja at hc1 ⊢
      walk_at "rd"
      refine ⟨D0, _, rfl, .inl (sq (s10 _ _ nD0.symm hI0)), ?_⟩
      refine draw_of hA10 ⟨by rw [List.length_map]; omega, by rw [List.length_map]; omega⟩ fun r11 H11 h110 h111 s11 hA11 => ?_
      rw [List.length_map] at h111
      obtain ⟨b, rfl⟩ := Int.eq_ofNat_of_zero_le h110
      have hb : b < is0.length := by omega
      have s911 := s10.trans s11
      refine ⟨_, _, _, _, rfl, rfl, sq (s911 _ _ nD0.symm hI0), atI_nat (by rw [List.getElem?_map, List.getElem?_eq_getElem hb]; rfl), ?_⟩
      obtain ⟨c2, hc2, m2⟩ := mem0 is0[b] (List.getElem_mem hb)
      generalize is0[b] = jb at hc2 ⊢
      have tk11 := tk_but (K := K) hA9 s911
      have hM11 := s911 _ _ sM.symm hM9
      have hus11 := da_tk tk11 _ _ (tup_cls bs) hus9
      obtain ⟨la, _⟩ := List.getElem?_eq_some_iff.mp hc1
      obtain ⟨lb2, _⟩ := List.getElem?_eq_some_iff.mp hc2
      have ea := List.getElem?_eq_getElem (show ja < us.length by omega)
      have eb := List.getElem?_eq_getElem (show jb < us.length by omega)
      obtain ⟨g1, hg1, d1⟩ := da_atM hus11 ea
      obtain ⟨g2, hg2, d2⟩ := da_atM hus11 eb
      rw [hc1] at hg1
      rw [hc2] at hg2
      cases hg1
      cases hg2
      generalize us[ja] = v1 at ea d1
      generalize us[jb] = v2 at eb d2
      obtain ⟨p1, y1, rfl, _⟩ := dp_tup d1
      obtain ⟨p2, y2, rfl, _⟩ := dp_tup d2
      walk_at "rd"
      refine ⟨_, _, _, _, rfl, rfl, sq hM11, atI_nat ea, ?_⟩
      walk_at "rd"
      refine ⟨_, _, _, _, rfl, rfl, sq hM11, atI_nat eb, ?_⟩
      walk_at "rd"
      show spCut K _ _ _ _
      unfold spCut
      refine ⟨p1, p2, c1, c2, n, ns, rfl, d1, d2, dv_vc vc dv ja c1 hc1, dv_vc vc dv jb c2 hc2, tx, by omega, okn, fun v o H12 s12 hcut hov => ?_⟩
      have s912 := s911.trans (Bx.Same.but s12)
      have hA12 := src_same hA11 s12
      walk_at "rd"
      cases o with
      | none =>
        have e : v = .non := hov
        subst e
        refine ite2 (fun h => absurd h (by decide)) (fun _ => ?_)
        walk_at "rd"
        exact ⟨_, _, _, _, _, _, _, rfl, stay H12 s912 hA12⟩
      | some c =>
        have dc : Dp K H12 v (clD c) := hov
        obtain ⟨pc, yc, rfl, _⟩ := dp_tup dc
        refine ite2 (fun _ => ?_) (fun h => absurd (show (!decide (V.ref pc = V.non)) = true by simp) h)
        have der : Der cs bs (.cut (ja : Nat) (jb : Nat) n) (some c) := by
          show (match clAt bs (ja : Nat), clAt bs (jb : Nat) with | some c1, some d => if (n, (1 : Int)) ∈ c1 ∧ (n, (0 : Int)) ∈ d then IsRes c1 d n (some c) else some c = none | _, _ => some c = none)
          rw [clAt_pre (List.prefix_refl _) hc1, clAt_pre (List.prefix_refl _) hc2]
          exact hcut
        have hL12 := s912 _ _ sL.symm hL9
        have hM12 := s912 _ _ sM.symm hM9
        have tk12 := tk_but (K := K) hA9 s912
        walk_at "rd"
        refine ⟨.inl ⟨rfl, _, sq hL12⟩, ?_⟩
        walk_at "rd"
        refine ⟨sz (by show 4 ≤ 100000; decide), fun U nU => ?_⟩
        have sU := same_new nU (o := .tup [.str (Str.ofString "cut"), .int (ja : Nat), .int (jb : Nat), .str n])
        have hU : Dp K (upd H12 U (.tup [.str (Str.ofString "cut"), .int (ja : Nat), .int (jb : Nat), .str n])) (.ref U) (lnD (.cut (ja : Nat) (jb : Nat) n)) := .tup (sqt upd_same) (.cons (.str _) (.cons (.int _) (.cons (.int _) (da_one (.str _)))))
        generalize upd H12 U (.tup [.str (Str.ofString "cut"), .int (ja : Nat), .int (jb : Nat), .str n]) = H13 at sU hU ⊢
        have hL13 := sU _ _ hL12
        have hM13 := sU _ _ hM12
        have fin := dl_more nL nM LM sL sM (s09.trans (s912.trans (Bx.Same.but sU))) (src_same hA12 sU) hL13 (dpAll_same sU (da_tk tk12 _ _ (tup_lns lns) dz9)) hM13 (dpAll_same sU (da_tk tk12 _ _ (tup_cls bs) hus9)) dv lm hU (dp_same sU dc) der
        walk_at "rd"
        refine ⟨L, _, _, rfl, rfl, hL13, szl (by omega), ?_⟩
        have hM14 : (upd H13 L (.lst (zs ++ [.ref U]))) M = some (.lst us) := by rw [upd_ne (Ne.symm LM)]; exact hM13
        walk_at "rd"
        refine ⟨.inl ⟨rfl, _, sq hM14⟩, ?_⟩
        walk_at "rd"
        refine ⟨M, _, _, rfl, rfl, hM14, szl (by omega), ?_⟩
        exact ⟨_, _, _, _, _, _, _, rfl, fin⟩
    · rintro σ H4 ⟨o4, o5, o6, o7, o8, o9, o10, rfl, s3, hA3, zs, us, lns, bs, hL3, dz3, hM3, hus3, dv, lm⟩
      walk_at "rd"
      refine ⟨L, _, rfl, .inl ⟨sq hL3, fun t nt => ?_⟩⟩
      have st := same_new nt (o := .tup zs)
      have ht := upd_same (H := H4) (a := t) (o := .tup zs)
      generalize upd H4 t (.tup zs) = H5 at st ht ⊢
      walk_at "rd"
      refine ⟨sz (by show 2 ≤ 100000; decide), fun r nr => ?_⟩
      have sr := same_new nr (o := .tup [.ref t, .ref M])
      have str := st.trans sr
      exact q r t M zs us lns bs _ (s3.trans (Bx.Same.but str)) (src_same hA3 str) (sqt upd_same) (sqt (sr _ _ ht)) (dpAll_same str dz3) sM.symm (str _ _ hM3) (dpAll_same str hus3) dv (by omega)
end
end K12
namespace K12
local macro_rules | `(tactic| walk_at "rd") => `(tactic| repeat (first | refine ⟨rfl, ?_⟩ | refine ⟨_, rfl, ?_⟩ | refine ⟨_, _, rfl, rfl, ?_⟩ | refine ⟨⟨_, rfl⟩, ?_⟩))
open PySem PySem.Spec PyProof.Rows L2 Bx TL Dx Zx Ow Sup NdefX Px
theorem cut_suf (xs : List V) (k : Nat) : cutV xs (some (k : Int)) none = xs.drop k := by
  unfold cutV
  rw [HT.sIx_nat, HT.sIx_none]
  by_cases h : k ≤ xs.length
  · rw [Nat.min_eq_left h]
    exact List.take_of_length_le (by rw [List.length_drop]; exact Nat.le_refl _)
  · rw [Nat.min_eq_right (by omega), List.drop_of_length_le (show xs.length ≤ k by omega), List.drop_length]
    exact List.take_nil
/-- clauses that are c with names of ns added -/
theorem wide_vc {ns : List Str} {c e d : Cl} (asc : Asc ns) (vc : Vc ns c) (sub : (e.map (·.1)).Sublist ns) (no : ∀ l ∈ e, l.1 ∉ c.map (·.1)) (sg : ∀ l ∈ e, l.2 = 0 ∨ l.2 = 1) (pe : d.Perm (c ++ e)) (srt : (d.map litD).Pairwise fun a b => So.dle a b = true) : Vc ns d := by
  refine ⟨up_of srt ((pe.map (·.1)).nodup_iff.mpr ?_), fun l hl => ?_⟩
  · rw [List.map_append, List.nodup_append]
    refine ⟨vc_nodup vc, (asc_nodup asc).sublist sub, fun a ha b hb e2 => ?_⟩
    obtain ⟨x, hx, rfl⟩ := List.mem_map.mp hb
    exact no x hx (e2 ▸ ha)
  · rcases List.mem_append.mp (pe.mem_iff.mp hl) with h | h
    · exact vc.2 l h
    · exact ⟨sub.subset (List.mem_map.mpr ⟨l, h, rfl⟩), sg l h⟩
theorem da_drop {K : PySem.W.Frag} {H : Hp} : ∀ {xs : List V} {ds : List PyData}, DpAll K H xs ds → ∀ n, DpAll K H (xs.drop n) (ds.drop n)
  | _, _, h, 0 => h
  | [], [], h, _ + 1 => h
  | _ :: _, _ :: _, .cons _ h2, n + 1 => da_drop h2 n
section
variable {P : Program} {w : World} {K : PySem.W.Frag} {mg : Str → Option Value} {base : Heap}
theorem slice_any {H : Hp} {a : Addr} {xs : List V} {lo hi : Option Int} (ha : SqT K H a xs) {Z : VK} (q : ∀ c' H', Same H H' → SqT K H' c' (cutV xs lo hi) → Z (.ref c') H') : rSlA K (.ref a) lo hi H Z := by
  refine ⟨a, xs, rfl, ha, fun h => ?_, fun _ p np => q p _ (same_new np) (sqt upd_same)⟩
  have e : cutV xs lo hi = xs := by
    unfold cutV
    rw [h.1, h.2, List.drop_zero, Nat.sub_zero, List.take_length]
  exact q a H (Same.refl H) (e.symm ▸ ha)
@[irreducible] def spWide (K : PySem.W.Frag) : Sp := fun vs H Q _ => ∃ (s na p : Addr) (ns : List Str) (c : Cl), vs = [.ref s, .ref na, .ref p] ∧ Src H s ∧ SqT K H na (ns.map V.str) ∧ Asc ns ∧ (∀ z ∈ ns, Tx 17 z) ∧ ns.length ≤ 20 ∧ Dp K H (.ref p) (clD c) ∧ Vc ns c ∧ ∀ (v : V) (d : Cl) (H' : Hp), SameBut s H H' → Src H' s → Dp K H' v (clD d) → Vc ns d → (∀ l ∈ c, l ∈ d) → Q v H'
set_option maxHeartbeats 2000000 in
theorem ok_widened {f : Addr} {fd : FuncData} (F : Fun K "_law_widened" "_law_widened" s__law_widened f fd) (m_list : mg "list" = none) (m_tuple : mg "tuple" = none) (m_sorted : mg "sorted" = none) (C__law_draw : CDraw P w K mg base) : FnOk P w K mg base CX0 2 f fd ["_law_source_here", "_law_names", "_law_clause_here"] (spWide K) := by
  refine F.ok sc__law_widened (fun vs H Q E h => ?_) (fun cdv A outer s H vs Q E hr h => ?_)
  · unfold spWide at h
    obtain ⟨s, na, p, ns, c, rfl, _⟩ := h
    rfl
  · unfold spWide at h
    obtain ⟨src, na, p, ns, c, rfl, hA, hna, asc, tx, nl, hp, vc, q⟩ := h
    obtain ⟨okc, lc⟩ := vc_ok tx nl vc
    obtain ⟨p', xs, ep, ht, ha⟩ := dp_tup hp
    cases ep
    have xl : xs.length = c.length := by rw [da_len ha, List.length_map]
    refine ⟨_, (pss_cons (ps_set (i := 3) sc__law_widened.nd rfl (Or.inl rfl) (pe_callTy (T := "list") call_list_of (by rfl) m_list (by decide +kernel) (pa_cons (pv 2) pa_nil)))
    (pss_cons (ps_setLc (i := 4) (own := [("_law_literal", 6)]) (tt := tYes) rfl sc__law_widened.nd rfl rfl (sw_true rfl rfl rfl (by decide +kernel)) (pi_tup (pv 2)) (blkOk_by (N := n__law_widened) (sc := defScope s__law_widened) (by decide +kernel)) (fun _ _ _ _ _ => pg_name (i := 6) sc__law_widened.nd rfl (Or.inl rfl)) (fun _ _ _ _ _ => pts_nil) (fun _ _ _ _ _ => (pe_ix (ix_tupK (K := K) rfl) (pv 6) pe_int (fun _ _ => rfl))))
    (pss_cons (ps_for PassesOwn.never rfl (pi_tup (pv 1)) (pg_name (i := 5) sc__law_widened.nd rfl (Or.inl rfl))
      (pss_one (ps_if (PW.pt (pw_and (pt_cmpR op_notIn_seq (pv 5) (pv 4) (by rfl)) (pw_and1 (pt_cmpR op_eq (pe_cal C__law_draw (hr.mono (by decide)) (pa_cons (pv 0) (pa_cons pe_int pa_nil))) pe_int (nomark _)))))
      (pss_one (ps_expr (pe_bm PySem.F.plainAttrs_list PySem.F.slot_list_append PySem.F.type_list_append mt_append (pv 3) (pa_cons (pe_tup (pa_cons (pv 5) (pa_cons (pe_cal C__law_draw (hr.mono (by decide)) (pa_cons (pv 0) (pa_cons pe_int pa_nil))) pa_nil))) pa_nil))))
      pss_nil)))
    (pss_one (ps_ret (pe_callTy (T := "tuple") call_tuple_of (by rfl) m_tuple (by decide +kernel) (pa_cons (pe_callB (id := "sorted") (Sd.cr_sortT (room hr)) (by rfl) m_sorted (by decide +kernel) (pa_cons (pv 3) pa_nil)) pa_nil))))))), ?_⟩
    walk_at "rd"
    refine ⟨p, _, rfl, .inr ht, fun M nM => ?_⟩
    have nMs := src_ne hA nM
    have s1 := same_new nM (o := .lst xs)
    have hM1 := upd_same (H := H) (a := M) (o := .lst xs)
    have hA1 := src_upd (u := .lst xs) hA nMs
    generalize upd H M (.lst xs) = H1 at s1 hM1 hA1 ⊢
    walk_at "rd"
    have ht1 := Bx.Same.tup s1 ht
    refine ⟨⟨_, ht1⟩, fun U hU => ?_⟩
    have nUs := src_ne hA1 hU
    have MU : M ≠ U := ne_of_none hM1 hU
    refine lc_it walk_tup (fun i H' => Same H1 H' ∧ H' U = some (.lst (((c.take i).map (·.1)).map V.str))) ⟨same_new hU, upd_same⟩ (fun i H' _ h => Bx.Same.tup h.1 ht1) ?_ ?_
    · rintro i v H4a H4 hi ⟨s4, hM⟩ ⟨rfl, hx⟩
      obtain ⟨l, hl, dl⟩ := da_atM ha hx
      obtain ⟨b, rfl, hb⟩ := lit_dp (dp_same (s1.trans s4) dl)
      refine ⟨rfl, ?_⟩
      walk_at "rd"
      refine ⟨_, _, _, _, rfl, rfl, hb, atI_nat (j := 0) rfl, ?_⟩
      refine ⟨_, hM, ?_, same_at hU s4, ?_⟩
      · rw [List.length_map, List.length_map]
        exact szl (Nat.lt_of_le_of_lt (List.length_take_le' i c) (by omega))
      · rw [upd_same, List.take_add_one, hl, List.map_append, List.map_append]
        rfl
    rintro H2 ⟨s2, hU2⟩
    rw [xl, List.take_length] at hU2
    have s02 := s1.trans s2
    have hA2 := src_same hA1 s2
    have hM2 := s2 _ _ hM1
    have ha2 := dpAll_same s02 ha
    walk_at "rd"
    refine ⟨⟨_, Bx.Same.tup s02 hna⟩, for_it (walk_tup (K := K) (a := na) (xs := ns.map V.str)) (fun j σ H' => ∃ (o5 : Option V) (us : List V) (e : Cl), σ = [some (.ref src), some (.ref na), some (.ref p), some (.ref M), some (.ref U), o5, none] ∧ SameBut src H H' ∧ Src H' src ∧ H' U = some (.lst ((c.map (·.1)).map V.str)) ∧ H' M = some (.lst us) ∧ DpAll K H' us ((c ++ e).map litD) ∧ (e.map (·.1)).Sublist (ns.take j) ∧ (∀ l ∈ e, l.1 ∉ c.map (·.1)) ∧ ∀ l ∈ e, l.2 = 0 ∨ l.2 = 1)
      ⟨none, xs, [], rfl, Bx.Same.but s02, hA2, hU2, hM2, by rw [List.append_nil]; exact ha2, List.nil_sublist _, (fun l hl => by cases hl), fun l hl => (by cases hl)⟩ (fun j σ H' _ ⟨_, _, _, _, s, _⟩ => sqt_but hA s hna) ?_ ?_⟩
    · rintro j x σ H3a H3 hj ⟨o5, us, e, rfl, s3, hA3, hU3, hM3, hus3, sub, no, sg⟩ ⟨rfl, hx⟩
      obtain ⟨n, hn, rfl⟩ := at_map hx
      rw [List.length_map] at hj
      have skip := sub_skip (ns := ns) sub
      walk_at "rd"
      refine ⟨U, _, rfl, .inl (sq hU3), rfl, Bx.flat_all _, ?_⟩
      rw [Bx.inV_str]
      refine ⟨_, rfl, ite2 (fun h6 => ?_) (fun _ => ?_)⟩
      · have h7 : n ∉ c.map (·.1) := by
          have z : (!decide (n ∈ c.map (·.1))) = true := h6
          simpa using z
        walk_at "rd"
        refine draw_of (lim := 2) hA3 (by decide) fun r4 H4 _ _ s4 hA4 => ?_
        have tk4 := tk_but (K := K) hA3 s4
        have hM4 := s4 _ _ nMs.symm hM3
        have hU4 := s4 _ _ nUs.symm hU3
        have hus4 := da_tk tk4 _ _ (tup_lits _) hus3
        walk_at "rd"
        refine ite2 (fun _ => ?_) (fun _ => ?_)
        · walk_at "rd"
          refine ⟨.inl ⟨rfl, _, sq hM4⟩, ?_⟩
          walk_at "rd"
          refine draw_of (lim := 2) hA4 (by decide) fun r5 H5 h50 h51 s5 hA5 => ?_
          refine ⟨sz (by show 2 ≤ 100000; decide), fun T nT => ?_⟩
          have sT := same_new nT (o := .tup [.str n, .int r5])
          have hT := upd_same (H := H5) (a := T) (o := .tup [.str n, .int r5])
          have s46 := s5.trans (Bx.Same.but sT)
          have hA6 := src_same hA5 sT
          generalize upd H5 T (.tup [.str n, .int r5]) = H6 at hT hA6 s46 ⊢
          have hM6 := s46 _ _ nMs.symm hM4
          have hU6 := s46 _ _ nUs.symm hU4
          have hus6 := da_tk (tk_but (K := K) hA4 s46) _ _ (tup_lits _) hus4
          have ul : us.length ≤ 100 := by
            rw [da_len hus3, List.length_map, List.length_append]
            have z := sub.length_le
            have z2 := List.length_take_le' j ns
            rw [List.length_map] at z
            omega
          walk_at "rd"
          refine ⟨M, _, _, rfl, rfl, hM6, szl (by omega), ?_⟩
          have tk := tk_lst (K := K) (o := .lst (us ++ [.ref T])) hM6
          refine ⟨_, us ++ [.ref T], e ++ [(n, r5)], rfl, but_at nM (s3.trans (s4.trans s46)), src_upd hA6 nMs, by rw [upd_ne (Ne.symm MU)]; exact hU6, upd_same, ?_, ?_, fun l hl => ?_, fun l hl => ?_⟩
          · rw [← List.append_assoc, List.map_append]
            exact da_app (da_tk tk _ _ (tup_lits _) hus6) (da_one (dp_tk tk _ _ rfl (dp_lit (l := (n, r5)) (sqt hT))))
          · rw [List.map_append]
            exact sub_snoc sub hn
          · rcases List.mem_append.mp hl with h | h
            · exact no l h
            · rw [List.mem_singleton.mp h]
              exact h7
          · rcases List.mem_append.mp hl with h | h
            · exact sg l h
            · rw [List.mem_singleton.mp h]
              show r5 = 0 ∨ r5 = 1
              omega
        · walk_at "rd"
          exact ⟨_, us, e, rfl, s3.trans s4, hA4, hU4, hM4, hus4, skip, no, sg⟩
      · walk_at "rd"
        exact ⟨_, us, e, rfl, s3, hA3, hU3, hM3, hus3, skip, no, sg⟩
    · rintro σ H3 ⟨o5, us, e, rfl, s3, hA3, hU3, hM3, hus3, sub, no, sg⟩
      rw [List.length_map, List.take_length] at sub
      have le : (c ++ e).length ≤ 40 := by
        rw [List.length_append]
        have z := sub.length_le
        rw [List.length_map] at z
        omega
      walk_at "rd"
      refine ⟨M, us, (c ++ e).map litD, rfl, sq hM3, hus3, all_alike alike_lit _, fun d hd => (by obtain ⟨l, _, rfl⟩ := List.mem_map.mp hd; exact ⟨_, rfl⟩), by rw [List.length_map]; exact sz (by omega), fun d hd => (by obtain ⟨l, _, rfl⟩ := List.mem_map.mp hd; show 1 ≤ 60; decide), fun zs R nR dR => ?_⟩
      have sR := same_new nR (o := .lst zs)
      have hR := upd_same (H := H3) (a := R) (o := .lst zs)
      have dR2 := dpAll_same sR dR
      have pm := List.mergeSort_perm ((c ++ e).map litD) So.dle
      have srt := PySem.W.sort_pairwise dle_total ((c ++ e).map litD)
      obtain ⟨ls, els⟩ := unmap (f := litD) (l := ((c ++ e).map litD).mergeSort So.dle) fun d hd => (by obtain ⟨l, _, e⟩ := List.mem_map.mp (pm.mem_iff.mp hd); exact ⟨l, e⟩)
      rw [els] at dR2 pm srt
      have pe := perm_unmap (fun x y e => lit_inj e) pm
      generalize upd H3 R (.lst zs) = H4 at sR hR dR2 ⊢
      walk_at "rd"
      refine ⟨R, _, rfl, .inl ⟨sq hR, fun t nt => ?_⟩⟩
      have st := same_new nt (o := .tup zs)
      exact q (.ref t) ls _ (s3.trans (Bx.Same.but (sR.trans st))) (src_same hA3 (sR.trans st)) (.tup (sqt upd_same) (dpAll_same st dR2)) (wide_vc asc vc sub no sg pe srt) (fun l hl => pe.mem_iff.mpr (List.mem_append_left _ hl))
theorem narrow_vc {ns : List Str} {c : Cl} {k : Nat} {l : Lit} (v : Vc ns c) (hl : c[k]? = some l) : Vc ns (c.take k ++ c.drop (k + 1)) ∧ Vc ns (c.take k ++ (l.1, 1 - l.2) :: c.drop (k + 1)) := by
  obtain ⟨hk, e⟩ := List.getElem?_eq_some_iff.mp hl
  have ec : c = c.take k ++ l :: c.drop (k + 1) := by
    rw [← e, ← List.drop_eq_getElem_cons hk, List.take_append_drop]
  have up := v.1
  rw [ec] at up
  have lm := List.mem_of_getElem? hl
  have sg := (v.2 l lm).2
  refine ⟨⟨up.sublist (List.Sublist.append (List.Sublist.refl _) (List.sublist_cons_self _ _)), fun x hx => ?_⟩, ⟨?_, fun x hx => ?_⟩⟩
  · rcases List.mem_append.mp hx with h | h
    · exact v.2 x (List.mem_of_mem_take h)
    · exact v.2 x (List.mem_of_mem_drop h)
  · have z : ((c.take k ++ l :: c.drop (k + 1)).map (·.1)).Pairwise fun (x y : Str) => x.cps.toList < y.cps.toList := (List.pairwise_map (R := fun x y : Str => x.cps.toList < y.cps.toList) (f := fun l : Lit => l.1)).mpr up
    have z2 : (c.take k ++ (l.1, 1 - l.2) :: c.drop (k + 1)).map (·.1) = (c.take k ++ l :: c.drop (k + 1)).map (·.1) := by
      rw [List.map_append, List.map_append]
      rfl
    rw [← z2] at z
    exact (List.pairwise_map (R := fun x y : Str => x.cps.toList < y.cps.toList) (f := fun l : Lit => l.1)).mp z
  · rcases List.mem_append.mp hx with h | h
    · exact v.2 x (List.mem_of_mem_take h)
    · rcases List.mem_cons.mp h with h | h
      · rw [h]
        refine ⟨(v.2 l lm).1, ?_⟩
        show 1 - l.2 = 0 ∨ 1 - l.2 = 1
        omega
      · exact v.2 x (List.mem_of_mem_drop h)
@[irreducible] def spNarrow (K : PySem.W.Frag) : Sp := fun vs H Q _ => ∃ (s p : Addr) (ns : List Str) (c : Cl), vs = [.ref s, .ref p] ∧ Src H s ∧ Dp K H (.ref p) (clD c) ∧ Vc ns c ∧ c.length ≤ 20 ∧ ∀ (v : V) (d : Cl) (H' : Hp), SameBut s H H' → Src H' s → Dp K H' v (clD d) → Vc ns d → Q v H'
set_option maxHeartbeats 2000000 in
theorem ok_narrowed {f : Addr} {fd : FuncData} (F : Fun K "_law_narrowed" "_law_narrowed" s__law_narrowed f fd) (m_len : mg "len" = none) (m_list : mg "list" = none) (m_tuple : mg "tuple" = none) (C__law_draw : CDraw P w K mg base) : FnOk P w K mg base CX0 2 f fd ["_law_source_here", "_law_clause_here"] (spNarrow K) := by
  refine F.ok sc__law_narrowed (fun vs H Q E h => ?_) (fun cdv A outer s H vs Q E hr h => ?_)
  · unfold spNarrow at h
    obtain ⟨s, p, ns, c, rfl, _⟩ := h
    rfl
  · unfold spNarrow at h
    obtain ⟨src, p, ns, c, rfl, hA, hp, vc, lc, q⟩ := h
    obtain ⟨p', xs, ep, ht, ha⟩ := dp_tup hp
    cases ep
    have xl : xs.length = c.length := by rw [da_len ha, List.length_map]
    refine ⟨_, (pss_cons (ps_if (pt_cmpR op_eq (pe_callB call_len_seq (by rfl) m_len PySem.boot_len (pa_cons (pv 1) pa_nil)) pe_int (nomark _))
      (pss_one (ps_ret (pv 1)))
      pss_nil)
    (pss_cons (ps_set (i := 2) sc__law_narrowed.nd rfl (Or.inl rfl) (pe_cal C__law_draw (hr.mono (by decide)) (pa_cons (pv 0) (pa_cons (pe_callB call_len_seq (by rfl) m_len PySem.boot_len (pa_cons (pv 1) pa_nil)) pa_nil))))
    (pss_cons (ps_set (i := 3) sc__law_narrowed.nd rfl (Or.inl rfl) (pe_callTy (T := "list") call_list_of (by rfl) m_list (by decide +kernel) (pa_cons (pe_slice sl_tupA (pv 1) po_none (po_some (pv 2))) pa_nil)))
    (pss_cons (ps_if (pt_cmpR op_eq (pe_cal C__law_draw (hr.mono (by decide)) (pa_cons (pv 0) (pa_cons pe_int pa_nil))) pe_int (nomark _))
      (pss_one (ps_expr (pe_bm PySem.F.plainAttrs_list PySem.F.slot_list_append PySem.F.type_list_append mt_append (pv 3) (pa_cons (pe_tup (pa_cons (pe_ix ix_tup (pe_ix ix_tup (pv 1) (pv 2) (fun _ _ => rfl)) pe_int (fun _ _ => rfl)) (pa_cons (pe_op op_sub pe_int (pe_ix ix_tup (pe_ix ix_tup (pv 1) (pv 2) (fun _ _ => rfl)) pe_int (fun _ _ => rfl))) pa_nil))) pa_nil))))
      pss_nil)
    (pss_one (ps_ret (pe_callTy (T := "tuple") call_tuple_of (by rfl) m_tuple (by decide +kernel) (pa_cons (pe_op op_cat (pv 3) (pe_callTy (T := "list") call_list_of (by rfl) m_list (by decide +kernel) (pa_cons (pe_slice sl_tupA (pv 1) (po_some (pe_op op_add (pv 2) pe_int)) po_none) pa_nil))) pa_nil)))))))), ?_⟩
    walk_at "rd"
    refine ⟨p, _, rfl, .inr ht, ?_⟩
    walk_at "rd"
    refine ite2 (fun _ => ?_) (fun h6 => ?_)
    · walk_at "rd"
      exact q _ c H (SameBut.refl _ _) hA hp vc
    have x0 : 0 < xs.length := by
      rcases Nat.eq_zero_or_pos xs.length with z | z
      · exact absurd (show decide (V.int (xs.length : Nat) = V.int 0) = true by rw [z]; rfl) h6
      · exact z
    walk_at "rd"
    refine ⟨p, _, rfl, .inr ht, ?_⟩
    refine draw_of hA ⟨by omega, by omega⟩ fun r1 H1 h10 h11 s1 hA1 => ?_
    obtain ⟨k, rfl⟩ := Int.eq_ofNat_of_zero_le h10
    have hk : k < xs.length := by omega
    have ht1 := sqt_but hA s1 ht
    have ha1 := da_tk (tk_but hA s1) _ _ (tup_lits c) ha
    have ev := List.getElem?_eq_getElem hk
    obtain ⟨l, hl, dl⟩ := da_atM ha1 ev
    obtain ⟨v1, v2⟩ := narrow_vc vc hl
    obtain ⟨b, eb, hb⟩ := lit_dp dl
    rw [eb] at ev dl
    walk_at "rd"
    refine slice_any ht1 fun c1 H2 s2 hc1 => ?_
    rw [cut_pre] at hc1
    refine ⟨c1, _, rfl, .inr hc1, fun M nM => ?_⟩
    have s3 := same_new nM (o := .lst (xs.take k))
    have hM := upd_same (H := H2) (a := M) (o := .lst (xs.take k))
    have hA3 := src_same hA1 (s2.trans s3)
    have s13 := s2.trans s3
    generalize upd H2 M (.lst (xs.take k)) = H3 at s3 hM hA3 s13 ⊢
    have nMs : M ≠ src := (src_ne (src_same hA1 s2) nM).symm
    have da0 : DpAll K H3 (xs.take k) ((c.take k).map litD) := by
      rw [List.map_take]
      exact da_take (dpAll_same s13 ha1) _
    dsimp only [gName]
    refine st_co (fun H' => SameBut src H H' ∧ Src H' src ∧ ∃ (us : List V) (e : Cl), H' M = some (.lst us) ∧ DpAll K H' us (e.map litD) ∧ Vc ns (e ++ c.drop (k + 1)) ∧ e.length ≤ 21) (fun D' hD' => ?_) ?_
    · walk_at "rd"
      refine draw_of (lim := 2) hA3 (by decide) fun r4 H4 _ _ s4 hA4 => ?_
      have hM4 := s4 _ _ nMs hM
      have da4 := da_tk (tk_but hA3 s4) _ _ (tup_lits _) da0
      have s04 := s1.trans ((Bx.Same.but s13).trans s4)
      walk_at "rd"
      refine ite2 (fun _ => ?_) (fun _ => ?_)
      · walk_at "rd"
        refine ⟨.inl ⟨rfl, _, sq hM4⟩, ?_⟩
        have ht4 := sqt_but hA s04 ht
        have hb4 := sqt_but hA3 s4 (Bx.Same.tup s13 hb)
        walk_at "rd"
        refine ⟨_, _, _, _, rfl, rfl, ht4, atI_nat ev, ?_⟩
        walk_at "rd"
        refine ⟨_, _, _, _, rfl, rfl, hb4, atI_nat (j := 0) rfl, ?_⟩
        walk_at "rd"
        refine ⟨_, _, _, _, rfl, rfl, ht4, atI_nat ev, ?_⟩
        walk_at "rd"
        refine ⟨_, _, _, _, rfl, rfl, hb4, atI_nat (j := 1) rfl, ?_⟩
        walk_at "rd"
        refine ⟨sz (by show 2 ≤ 100000; decide), fun T nT => ?_⟩
        have sT := same_new nT (o := .tup [.str l.1, .int (1 - l.2)])
        have hT := upd_same (H := H4) (a := T) (o := .tup [.str l.1, .int (1 - l.2)])
        have hA5 := src_same hA4 sT
        generalize upd H4 T (.tup [.str l.1, .int (1 - l.2)]) = H5 at sT hT hA5 ⊢
        have hM5 := sT _ _ hM4
        walk_at "rd"
        have tl : (xs.take k).length ≤ xs.length := List.length_take_le' _ _
        refine ⟨M, _, _, rfl, rfl, hM5, szl (by omega), ?_⟩
        have tk := tk_lst (K := K) (o := .lst (xs.take k ++ [.ref T])) hM5
        refine hD' _ ⟨?_, src_upd hA5 (Ne.symm nMs), xs.take k ++ [.ref T], c.take k ++ [(l.1, 1 - l.2)], upd_same, ?_, ?_, ?_⟩
        · refine fun b o hb2 e => ?_
          by_cases bM : b = M
          · subst bM
            exact absurd (s2 _ _ (s1 _ _ hb2 e)) (by rw [nM]; exact fun z => nomatch z)
          · rw [upd_ne bM]
            exact sT _ _ (s04 b o hb2 e)
        · rw [List.map_append]
          exact da_app (da_tk tk _ _ (tup_lits _) (dpAll_same sT da4)) (da_one (dp_tk tk _ _ rfl (dp_lit (l := (l.1, 1 - l.2)) (sqt hT))))
        · rw [List.append_assoc]
          exact v2
        · rw [List.length_append]
          show (c.take k).length + 1 ≤ 21
          have := List.length_take_le' k c
          omega
      · exact hD' H4 ⟨s04, hA4, _, c.take k, hM4, da4, v1, by have := List.length_take_le' k c; omega⟩
    rintro H4 ⟨s4, hA4, us, e, hM4, hus, ve, le⟩
    have ul : us.length = e.length := by rw [da_len hus, List.length_map]
    have ht4 := sqt_but hA s4 ht
    have ha4 := da_tk (tk_but hA s4) _ _ (tup_lits c) ha
    walk_at "rd"
    unfold tNoPart
    dsimp only
    refine slice_any ht4 fun c2 H5 s5 hc2 => ?_
    have e2 : cutV xs (some ((k : Int) + 1)) none = xs.drop (k + 1) := cut_suf xs (k + 1)
    rw [e2] at hc2
    refine ⟨c2, _, rfl, .inr hc2, fun N nN => ?_⟩
    have s6 := same_new nN (o := .lst (xs.drop (k + 1)))
    have hN := upd_same (H := H5) (a := N) (o := .lst (xs.drop (k + 1)))
    have s46 := s5.trans s6
    generalize upd H5 N (.lst (xs.drop (k + 1))) = H6 at s6 hN s46 ⊢
    have hM6 := s46 _ _ hM4
    refine ⟨M, N, us, xs.drop (k + 1), rfl, rfl, hM6, hN, sz (by rw [List.length_drop]; omega), fun G nG => ?_⟩
    have sG := same_new nG (o := .lst (us ++ xs.drop (k + 1)))
    have hG := upd_same (H := H6) (a := G) (o := .lst (us ++ xs.drop (k + 1)))
    have s47 := s46.trans sG
    have dG : DpAll K (upd H6 G (.lst (us ++ xs.drop (k + 1)))) (us ++ xs.drop (k + 1)) ((e ++ c.drop (k + 1)).map litD) := by
      rw [List.map_append, List.map_drop]
      exact da_app (dpAll_same s47 hus) (da_drop (dpAll_same s47 ha4) _)
    generalize upd H6 G (.lst (us ++ xs.drop (k + 1))) = H7 at sG hG s47 dG ⊢
    generalize us ++ xs.drop (k + 1) = gs at hG dG
    walk_at "rd"
    refine ⟨G, _, rfl, .inl ⟨sq hG, fun t nt => ?_⟩⟩
    have st := same_new nt (o := .tup gs)
    exact q (.ref t) _ _ (s4.trans (Bx.Same.but (s47.trans st))) (src_same hA4 (s47.trans st)) (.tup (sqt upd_same) (dpAll_same st dG)) ve
end
end K12
namespace K12
local macro_rules | `(tactic| walk_at "rd") => `(tactic| repeat (first | refine ⟨rfl, ?_⟩ | refine ⟨_, rfl, ?_⟩ | refine ⟨_, _, rfl, rfl, ?_⟩ | refine ⟨⟨_, rfl⟩, ?_⟩))
open PySem PySem.Spec PyProof.Rows L2 Bx TL Dx Zx Ow Sup NdefX Px
/-- a line whose numbers stay under B -/
def OkB (B : Nat) : Ln → Prop
  | .giv i => i.natAbs ≤ B
  | .cut i j n => i.natAbs ≤ B ∧ j.natAbs ≤ B ∧ PyData.strOk n = true
theorem OkB.mono {B C : Nat} {x : Ln} (h : OkB B x) (e : B ≤ C) : OkB C x := by
  cases x with
  | giv i => exact Nat.le_trans (show i.natAbs ≤ B from h) e
  | cut i j n =>
    have h2 : i.natAbs ≤ B ∧ j.natAbs ≤ B ∧ PyData.strOk n = true := h
    exact ⟨Nat.le_trans h2.1 e, Nat.le_trans h2.2.1 e, h2.2.2⟩
theorem OkB.ok {x : Ln} (h : OkB 10000 x) : OkLn x := by
  cases x with
  | giv i =>
    have h2 : i.natAbs ≤ 10000 := h
    show i.natAbs < 1000000
    omega
  | cut i j n =>
    have h2 : i.natAbs ≤ 10000 ∧ j.natAbs ≤ 10000 ∧ PyData.strOk n = true := h
    exact ⟨by omega, by omega, h2.2.2⟩
theorem dp_giv {K : PySem.W.Frag} {H : Hp} {t : Addr} {i : Int} (h : SqT K H t [.str (Str.ofString "given"), .int i]) : Dp K H (.ref t) (lnD (.giv i)) := .tup h (.cons (.str _) (da_one (.int _)))
theorem dp_cut {K : PySem.W.Frag} {H : Hp} {t : Addr} {i j : Int} {n : Str} (h : SqT K H t [.str (Str.ofString "cut"), .int i, .int j, .str n]) : Dp K H (.ref t) (lnD (.cut i j n)) := .tup h (.cons (.str _) (.cons (.int _) (.cons (.int _) (da_one (.str _)))))
theorem tup_ln1 (x : Ln) : tupD (lnD x) = true := by cases x <;> rfl
/-- one of six -/
theorem six {xs : List V} {B : Nat} (h : ∀ v ∈ xs, ∃ z : Int, v = .int z ∧ z.natAbs ≤ B) {r : Int} (h0 : 0 ≤ r) (h1 : r < (xs.length : Nat)) : ∃ (m : Nat) (z : Int), r = (m : Nat) ∧ xs[m]? = some (.int z) ∧ z.natAbs ≤ B := by
  obtain ⟨m, rfl⟩ := Int.eq_ofNat_of_zero_le h0
  have hm : m < xs.length := by omega
  have e := List.getElem?_eq_getElem hm
  obtain ⟨z, ez, hz⟩ := h _ (List.getElem_mem hm)
  exact ⟨m, z, rfl, by rw [e, ez], hz⟩
section
variable {P : Program} {w : World} {K : PySem.W.Frag} {mg : Str → Option Value} {base : Heap}
@[irreducible] def spIsEntry (K : PySem.W.Frag) : Sp := fun vs H Q _ => ∃ (v : V) (x : Ln), vs = [v] ∧ Dp K H v (lnD x) ∧ ∀ H', Same H H' → Q (.bl true) H'
theorem ok_is_entry {f : Addr} {fd : FuncData} (F : Fun K "_law_is_entry" "_law_is_entry" s__law_is_entry f fd) (m_len : mg "len" = none) (m_isinstance : mg "isinstance" = none) (m_tuple : mg "tuple" = none) (m_str : mg "str" = none) (C__law_is_int : Cal P w K mg base "_law_is_int" 1 ["_law_value"] spIsInt) : FnOk P w K mg base CX0 2 f fd ["_law_entry_here"] (spIsEntry K) := by
  refine F.ok sc__law_is_entry (fun vs H Q E h => ?_) (fun cdv A outer s H vs Q E hr h => ?_)
  · unfold spIsEntry at h
    obtain ⟨v, x, rfl, _⟩ := h
    rfl
  · unfold spIsEntry at h
    obtain ⟨v, x, rfl, dx, q⟩ := h
    refine ⟨_, (pss_cons (ps_if (PW.pt (pw_or (pt_not (pt_val (pe_callB (id := "isinstance") call_isi (by rfl) m_isinstance (by decide +kernel) (pa_cons (pv 0) (pa_cons (pe_bltn (v := .ty "tuple") (by rfl) m_tuple (by decide +kernel) rfl) pa_nil))))) (pw_or (pt_cmpR op_notIn_seq (pe_callB call_len_seq (by rfl) m_len PySem.boot_len (pa_cons (pv 0) pa_nil)) (pe_tup (pa_cons pe_int (pa_cons pe_int pa_nil))) (by rfl)) (pw_or1 (pt_not (pt_val (pe_cal C__law_is_int (hr.mono (by decide)) (pa_cons (pe_ix ix_tup (pv 0) pe_int (fun _ _ => rfl)) pa_nil))))))))
      (pss_one (ps_ret pe_bl))
      pss_nil)
    (pss_cons (ps_if (pt_not (pt_val (pe_callB (id := "isinstance") call_isi (by rfl) m_isinstance (by decide +kernel) (pa_cons (pe_ix ix_tup (pv 0) pe_int (fun _ _ => rfl)) (pa_cons (pe_bltn (v := .ty "str") (by rfl) m_str (by decide +kernel) rfl) pa_nil)))))
      (pss_one (ps_ret pe_bl))
      pss_nil)
    (pss_cons (ps_if (pt_cmpR op_eq (pe_callB call_len_seq (by rfl) m_len PySem.boot_len (pa_cons (pv 0) pa_nil)) pe_int (nomark _))
      (pss_one (ps_ret (pe_cmpR op_eq (pe_ix ix_tup (pv 0) pe_int (fun _ _ => rfl)) pe_str (nomark _))))
      pss_nil)
    (pss_one (ps_ret (pe_and (pe_cmpR op_eq (pe_ix ix_tup (pv 0) pe_int (fun _ _ => rfl)) pe_str (nomark _)) (pe_and (pe_cal C__law_is_int (hr.mono (by decide)) (pa_cons (pe_ix ix_tup (pv 0) pe_int (fun _ _ => rfl)) pa_nil)) (pe_one (pe_callB (id := "isinstance") call_isi (by rfl) m_isinstance (by decide +kernel) (pa_cons (pe_ix ix_tup (pv 0) pe_int (fun _ _ => rfl)) (pa_cons (pe_bltn (v := .ty "str") (by rfl) m_str (by decide +kernel) rfl) pa_nil))))))))))), ?_⟩
    walk_at "rd"
    cases x with
    | giv i =>
      obtain ⟨t, us, rfl, ht, ha⟩ := dp_tup dx
      cases ha with
      | cons a1 ha =>
      cases ha with
      | cons a2 ha =>
      cases ha
      cases a1
      cases a2
      refine ⟨_, _, _, _, true, rfl, .ty "tuple", ty_tup ht, kit_ty (by decide +kernel), ?_⟩
      walk_at "rd"
      refine ⟨t, _, rfl, .inr ht, ?_⟩
      refine ⟨sz (by show 2 ≤ 100000; decide), fun u hu => ?_⟩
      have s1 := same_new hu (o := .tup [.int 2, .int 4])
      have hu1 := upd_same (H := H) (a := u) (o := .tup [.int 2, .int 4])
      generalize upd H u (.tup [.int 2, .int 4]) = H1 at s1 hu1 ⊢
      have ht1 := Bx.Same.tup s1 ht
      have q1 := q H1 s1
      refine ⟨u, _, rfl, .inr (sqt hu1), rfl, rfl, ?_⟩
      walk_at "rd"
      refine ⟨_, _, _, _, rfl, rfl, ht1, atI_nat (j := 1) rfl, ?_⟩
      show spIsInt _ _ _ _
      unfold spIsInt
      refine ⟨_, rfl, ?_⟩
      walk_at "rd"
      refine ⟨_, _, _, _, rfl, rfl, ht1, atI_nat (j := 0) rfl, ?_⟩
      refine ⟨_, _, _, _, true, rfl, .ty "str", .base (.str _), kit_ty (by decide +kernel), ?_⟩
      walk_at "rd"
      refine ⟨t, _, rfl, .inr ht1, ?_⟩
      walk_at "rd"
      refine ⟨_, _, _, _, rfl, rfl, ht1, atI_nat (j := 0) rfl, ?_⟩
      walk_at "rd"
      exact q1
    | cut i j n =>
      obtain ⟨t, us, rfl, ht, ha⟩ := dp_tup dx
      cases ha with
      | cons a1 ha =>
      cases ha with
      | cons a2 ha =>
      cases ha with
      | cons a3 ha =>
      cases ha with
      | cons a4 ha =>
      cases ha
      cases a1
      cases a2
      cases a3
      cases a4
      refine ⟨_, _, _, _, true, rfl, .ty "tuple", ty_tup ht, kit_ty (by decide +kernel), ?_⟩
      walk_at "rd"
      refine ⟨t, _, rfl, .inr ht, ?_⟩
      refine ⟨sz (by show 2 ≤ 100000; decide), fun u hu => ?_⟩
      have s1 := same_new hu (o := .tup [.int 2, .int 4])
      have hu1 := upd_same (H := H) (a := u) (o := .tup [.int 2, .int 4])
      generalize upd H u (.tup [.int 2, .int 4]) = H1 at s1 hu1 ⊢
      have ht1 := Bx.Same.tup s1 ht
      have q1 := q H1 s1
      refine ⟨u, _, rfl, .inr (sqt hu1), rfl, rfl, ?_⟩
      walk_at "rd"
      refine ⟨_, _, _, _, rfl, rfl, ht1, atI_nat (j := 1) rfl, ?_⟩
      show spIsInt _ _ _ _
      unfold spIsInt
      refine ⟨_, rfl, ?_⟩
      walk_at "rd"
      refine ⟨_, _, _, _, rfl, rfl, ht1, atI_nat (j := 0) rfl, ?_⟩
      refine ⟨_, _, _, _, true, rfl, .ty "str", .base (.str _), kit_ty (by decide +kernel), ?_⟩
      walk_at "rd"
      refine ⟨t, _, rfl, .inr ht1, ?_⟩
      walk_at "rd"
      refine ⟨_, _, _, _, rfl, rfl, ht1, atI_nat (j := 0) rfl, ?_⟩
      walk_at "rd"
      refine ⟨_, _, _, _, rfl, rfl, ht1, atI_nat (j := 2) rfl, ?_⟩
      refine ⟨_, rfl, ?_⟩
      walk_at "rd"
      refine ⟨_, _, _, _, rfl, rfl, ht1, atI_nat (j := 3) rfl, ?_⟩
      refine ⟨_, _, _, _, true, rfl, .ty "str", .base (.str _), kit_ty (by decide +kernel), ?_⟩
      walk_at "rd"
      exact q1
@[irreducible] def spIsCert (K : PySem.W.Frag) : Sp := fun vs H Q _ => ∃ (t : Addr) (zs : List V) (lns : List Ln), vs = [.ref t] ∧ SqT K H t zs ∧ DpAll K H zs (lns.map lnD) ∧ 1 ≤ lns.length ∧ lns.length ≤ 1000 ∧ ∀ H', Same H H' → Q (.bl true) H'
theorem ok_is_certificate {f : Addr} {fd : FuncData} (F : Fun K "_law_is_certificate" "_law_is_certificate" s__law_is_certificate f fd) (m_len : mg "len" = none) (m_isinstance : mg "isinstance" = none) (m_tuple : mg "tuple" = none) (C__law_is_entry : Cal P w K mg base "_law_is_entry" 2 ["_law_entry_here"] (spIsEntry K)) : FnOk P w K mg base CX0 3 f fd ["_law_certificate"] (spIsCert K) := by
  refine F.ok sc__law_is_certificate (fun vs H Q E h => ?_) (fun cdv A outer s H vs Q E hr h => ?_)
  · unfold spIsCert at h
    obtain ⟨t, zs, lns, rfl, _⟩ := h
    rfl
  · unfold spIsCert at h
    obtain ⟨t, zs, lns, rfl, ht, dz, l1, l2, q⟩ := h
    have zl : zs.length = lns.length := by rw [da_len dz, List.length_map]
    refine ⟨_, (pss_cons (ps_if (PW.pt (pw_or (pt_not (pt_val (pe_callB (id := "isinstance") call_isi (by rfl) m_isinstance (by decide +kernel) (pa_cons (pv 0) (pa_cons (pe_bltn (v := .ty "tuple") (by rfl) m_tuple (by decide +kernel) rfl) pa_nil))))) (pw_or1 (pt_not (pt_chain op_le op_le pe_int (pe_callB call_len_seq (by rfl) m_len PySem.boot_len (pa_cons (pv 0) pa_nil)) pe_int)))))
      (pss_one (ps_ret pe_bl))
      pss_nil)
    (pss_cons (ps_for PassesOwn.never rfl (pi_tup (pv 0)) (pg_name (i := 1) sc__law_is_certificate.nd rfl (Or.inl rfl))
      (pss_one (ps_if (pt_not (pt_val (pe_cal C__law_is_entry (hr.mono (by decide)) (pa_cons (pv 1) pa_nil))))
      (pss_one (ps_ret pe_bl))
      pss_nil)))
    (pss_one (ps_ret pe_bl)))), ?_⟩
    walk_at "rd"
    refine ⟨_, _, _, _, true, rfl, .ty "tuple", ty_tup ht, kit_ty (by decide +kernel), ?_⟩
    walk_at "rd"
    refine ⟨t, _, rfl, .inr ht, ?_⟩
    walk_at "rd"
    rw [decide_eq_true (show (1 : Int) ≤ (zs.length : Nat) by omega)]
    walk_at "rd"
    rw [decide_eq_true (show ((zs.length : Nat) : Int) ≤ 3000 by omega)]
    walk_at "rd"
    refine ⟨⟨_, ht⟩, for_it (walk_tup (K := K) (a := t) (xs := zs)) (fun i σ H' => ∃ o1 : Option V, σ = [some (.ref t), o1] ∧ Same H H') ⟨none, rfl, Same.refl H⟩ (fun i σ H' _ ⟨_, _, s⟩ => Bx.Same.tup s ht) ?_ ?_⟩
    · rintro i x σ H2a H2 hi ⟨o1, rfl, s2⟩ ⟨rfl, hx⟩
      obtain ⟨ln, hl, dl⟩ := da_atM dz hx
      walk_at "rd"
      show spIsEntry K _ _ _ _
      unfold spIsEntry
      refine ⟨x, ln, rfl, dp_same s2 dl, fun H3 s3 => ?_⟩
      walk_at "rd"
      exact s2.trans s3
    · rintro σ H2 ⟨o1, rfl, s2⟩
      walk_at "rd"
      exact q H2 s2
@[irreducible] def spIndex : Sp := fun vs H Q _ => ∃ (s : Addr) (i c : Int), vs = [.ref s, .int i, .int c] ∧ Src H s ∧ i.natAbs ≤ 1000 ∧ c.natAbs ≤ 1000 ∧ ∀ (r : Int) (H' : Hp), SameBut s H H' → Src H' s → r.natAbs ≤ 10000 → Q (.int r) H'
theorem ok_index {f : Addr} {fd : FuncData} (F : Fun K "_law_index" "_law_index" s__law_index f fd) (C__law_draw : CDraw P w K mg base) : FnOk P w K mg base CX0 2 f fd ["_law_source_here", "_law_index_here", "_law_count"] spIndex := by
  refine F.ok sc__law_index (fun vs H Q E h => ?_) (fun cdv A outer s H vs Q E hr h => ?_)
  · unfold spIndex at h
    obtain ⟨s, i, c, rfl, _⟩ := h
    rfl
  · unfold spIndex at h
    obtain ⟨src, i, c, rfl, hA, bi, bc, q⟩ := h
    refine ⟨_, (pss_one (ps_ret (pe_ix ix_list (pe_lst (pa_cons (pe_op op_sub (pv 1) pe_int) (pa_cons (pe_op op_add (pv 1) pe_int) (pa_cons (pe_op op_sub (pe_un un_neg pe_int) (pv 1)) (pa_cons (pv 2) (pa_cons (pe_op op_sub (pv 1) (pv 2)) (pa_cons (pe_op op_add (pv 1) pe_int) pa_nil))))))) (pe_cal C__law_draw (hr.mono (by decide)) (pa_cons (pv 0) (pa_cons pe_int pa_nil))) (fun _ _ => rfl)))), ?_⟩
    walk_at "rd"
    refine ⟨sz (by show 6 ≤ 100000; decide), fun L nL => ?_⟩
    have sx : ∀ v ∈ [V.int (i - 1), .int (i + 1), .int (-1 - i), .int c, .int (i - c), .int (i + 70)], ∃ z : Int, v = .int z ∧ z.natAbs ≤ 10000 := by
      intro v hv
      simp only [List.mem_cons, List.not_mem_nil, or_false] at hv
      rcases hv with rfl | rfl | rfl | rfl | rfl | rfl
      · exact ⟨_, rfl, by omega⟩
      · exact ⟨_, rfl, by omega⟩
      · exact ⟨_, rfl, by omega⟩
      · exact ⟨_, rfl, by omega⟩
      · exact ⟨_, rfl, by omega⟩
      · exact ⟨_, rfl, by omega⟩
    have l6 : [V.int (i - 1), .int (i + 1), .int (-1 - i), .int c, .int (i - c), .int (i + 70)].length = 6 := rfl
    generalize [V.int (i - 1), .int (i + 1), .int (-1 - i), .int c, .int (i - c), .int (i + 70)] = xs at sx l6 ⊢
    have sL := same_new nL (o := .lst xs)
    have hL := upd_same (H := H) (a := L) (o := .lst xs)
    have nLs := src_ne hA nL
    have hA1 := src_upd (u := .lst xs) hA nLs
    generalize upd H L (.lst xs) = H1 at sL hL hA1 ⊢
    walk_at "rd"
    refine draw_of (lim := 6) hA1 (by decide) fun r2 H2 h20 h21 s2 hA2 => ?_
    obtain ⟨m, z, rfl, hm, hz⟩ := six sx h20 (by omega)
    refine ⟨_, _, _, _, rfl, rfl, sq (s2 _ _ nLs.symm hL), atI_nat hm, ?_⟩
    exact q z H2 ((Bx.Same.but sL).trans s2) hA2 hz
end
end K12
namespace K12
local macro_rules | `(tactic| walk_at "rd") => `(tactic| repeat (first | refine ⟨rfl, ?_⟩ | refine ⟨_, rfl, ?_⟩ | refine ⟨_, _, rfl, rfl, ?_⟩ | refine ⟨⟨_, rfl⟩, ?_⟩))
open PySem PySem.Spec PyProof.Rows L2 Bx TL Dx Zx Ow Sup NdefX Px
theorem da_cut {K : PySem.W.Frag} {H : Hp} {α : Type} {f : α → PyData} {xs : List V} {ls : List α} (h : DpAll K H xs (ls.map f)) (lo hi : Option Int) : ∃ ms : List α, DpAll K H (cutV xs lo hi) (ms.map f) ∧ (∀ x ∈ ms, x ∈ ls) ∧ ms.length ≤ ls.length := by
  unfold cutV
  refine ⟨(ls.drop (HT.sIx xs.length 0 lo)).take (HT.sIx xs.length xs.length hi - HT.sIx xs.length 0 lo), ?_, fun x hx => List.mem_of_mem_drop (List.mem_of_mem_take hx), ?_⟩
  · rw [List.map_take, List.map_drop]
    exact da_take (da_drop h _) _
  · rw [List.length_take, List.length_drop]
    omega
theorem da_set {K : PySem.W.Frag} {H : Hp} : ∀ {xs : List V} {ds : List PyData} {v : V} {d : PyData}, DpAll K H xs ds → Dp K H v d → ∀ n, DpAll K H (xs.set n v) (ds.set n d)
  | [], [], _, _, h, _, _ => h
  | _ :: _, _ :: _, _, _, .cons _ h2, hv, 0 => .cons hv h2
  | _ :: _, _ :: _, _, _, .cons h1 h2, hv, n + 1 => .cons h1 (da_set h2 hv n)
theorem mem_set {α : Type} {x y : α} : ∀ {l : List α} {n : Nat}, x ∈ l.set n y → x ∈ l ∨ x = y
  | [], _, h => by cases h
  | a :: l, 0, h => by
    rcases List.mem_cons.mp h with h | h
    · exact .inr h
    · exact .inl (List.mem_cons_of_mem _ h)
  | a :: l, n + 1, h => by
    rcases List.mem_cons.mp h with h | h
    · exact .inl (h ▸ List.mem_cons_self ..)
    · rcases mem_set h with h | h
      · exact .inl (List.mem_cons_of_mem _ h)
      · exact .inr h
/-- a tuple of three texts, after the names -/
theorem oth {ns : List Str} (tx : ∀ z ∈ ns, Tx 17 z) {ws : List V} (es : List Str) (hw : ws = es.map V.str) (he : ∀ z ∈ es, PyData.strOk z = true) {r : Int} (h0 : 0 ≤ r) (h1 : r < ((ns ++ es).length : Nat)) : ∃ (m : Nat) (n : Str), r = (m : Nat) ∧ (ns.map V.str ++ ws)[m]? = some (.str n) ∧ PyData.strOk n = true := by
  obtain ⟨m, rfl⟩ := Int.eq_ofNat_of_zero_le h0
  have hm : m < (ns ++ es).length := by omega
  refine ⟨m, (ns ++ es)[m], rfl, ?_, ?_⟩
  · rw [hw, ← List.map_append, List.getElem?_map, List.getElem?_eq_getElem hm]
    rfl
  · rcases List.mem_append.mp (List.getElem_mem hm) with h | h
    · exact (tx _ h).ok
    · exact he _ h
section
variable {P : Program} {w : World} {K : PySem.W.Frag} {mg : Str → Option Value} {base : Heap}
@[irreducible] def spEntry (K : PySem.W.Frag) : Sp := fun vs H Q _ => ∃ (s na : Addr) (v : V) (ns : List Str) (x : Ln) (k c : Nat), vs = [.ref s, .ref na, v, .int (k : Nat), .int (c : Nat)] ∧ Src H s ∧ SqT K H na (ns.map V.str) ∧ (∀ z ∈ ns, Tx 17 z) ∧ ns.length ≤ 20 ∧ Dp K H v (lnD x) ∧ OkB 1000 x ∧ k ≤ 1000 ∧ c ≤ 1000 ∧ ∀ (r : V) (y : Ln) (H' : Hp), SameBut s H H' → Src H' s → Dp K H' r (lnD y) → OkB 10000 y → Q r H'
set_option maxHeartbeats 2000000 in
theorem ok_entry {f : Addr} {fd : FuncData} (F : Fun K "_law_entry" "_law_entry" s__law_entry f fd) (m_len : mg "len" = none) (m_list : mg "list" = none) (C__law_draw : CDraw P w K mg base) (C__law_index : Cal P w K mg base "_law_index" 2 ["_law_source_here", "_law_index_here", "_law_count"] spIndex) : FnOk P w K mg base CX0 3 f fd ["_law_source_here", "_law_names", "_law_entry_here", "_law_at", "_law_count"] (spEntry K) := by
  refine F.ok sc__law_entry (fun vs H Q E h => ?_) (fun cdv A outer s H vs Q E hr h => ?_)
  · unfold spEntry at h
    obtain ⟨s, na, v, ns, x, k, c, rfl, _⟩ := h
    rfl
  · unfold spEntry at h
    obtain ⟨src, na, v, ns, x, k, c, rfl, hA, hna, tx, nl, dx, okx, lk, lc, q⟩ := h
    refine ⟨_, (pss_cons (ps_set (i := 5) sc__law_entry.nd rfl (Or.inl rfl) (pe_ix ix_list (pe_op op_cat (pe_callTy (T := "list") call_list_of (by rfl) m_list (by decide +kernel) (pa_cons (pv 1) pa_nil)) (pe_lst (pa_cons pe_str (pa_cons pe_str (pa_cons pe_str pa_nil))))) (pe_cal C__law_draw (hr.mono (by decide)) (pa_cons (pv 0) (pa_cons (pe_op op_add (pe_callB call_len_seq (by rfl) m_len PySem.boot_len (pa_cons (pv 1) pa_nil)) pe_int) pa_nil))) (fun _ _ => rfl)))
    (pss_cons (ps_set (i := 6) sc__law_entry.nd rfl (Or.inl rfl) (pe_cal C__law_draw (hr.mono (by decide)) (pa_cons (pv 0) (pa_cons pe_int pa_nil))))
    (pss_cons (ps_if (pt_cmpR op_eq (pe_ix ix_tup (pv 2) pe_int (fun _ _ => rfl)) pe_str (nomark _))
      (pss_cons (ps_if (pt_cmpR op_eq (pv 6) pe_int (nomark _))
      (pss_one (ps_ret (pe_tup (pa_cons pe_str (pa_cons (pe_ix ix_tup (pv 2) pe_int (fun _ _ => rfl)) (pa_cons (pe_cal C__law_index (hr.mono (by decide)) (pa_cons (pv 0) (pa_cons (pe_ix ix_tup (pv 2) pe_int (fun _ _ => rfl)) (pa_cons (pv 3) pa_nil)))) (pa_cons (pv 5) pa_nil)))))))
      pss_nil)
    (pss_one (ps_ret (pe_tup (pa_cons pe_str (pa_cons (pe_cal C__law_index (hr.mono (by decide)) (pa_cons (pv 0) (pa_cons (pe_ix ix_tup (pv 2) pe_int (fun _ _ => rfl)) (pa_cons (pv 4) pa_nil)))) pa_nil))))))
      pss_nil)
    (pss_cons (ps_if (pt_cmpR op_eq (pv 6) pe_int (nomark _))
      (pss_one (ps_ret (pe_tup (pa_cons pe_str (pa_cons (pe_ix ix_tup (pv 2) pe_int (fun _ _ => rfl)) pa_nil)))))
      pss_nil)
    (pss_cons (ps_if (pt_cmpR op_eq (pv 6) pe_int (nomark _))
      (pss_one (ps_ret (pe_tup (pa_cons pe_str (pa_cons (pe_cal C__law_index (hr.mono (by decide)) (pa_cons (pv 0) (pa_cons (pe_ix ix_tup (pv 2) pe_int (fun _ _ => rfl)) (pa_cons (pv 3) pa_nil)))) (pa_cons (pe_ix ix_tup (pv 2) pe_int (fun _ _ => rfl)) (pa_cons (pe_ix ix_tup (pv 2) pe_int (fun _ _ => rfl)) pa_nil)))))))
      pss_nil)
    (pss_cons (ps_if (pt_cmpR op_eq (pv 6) pe_int (nomark _))
      (pss_one (ps_ret (pe_tup (pa_cons pe_str (pa_cons (pe_ix ix_tup (pv 2) pe_int (fun _ _ => rfl)) (pa_cons (pe_cal C__law_index (hr.mono (by decide)) (pa_cons (pv 0) (pa_cons (pe_ix ix_tup (pv 2) pe_int (fun _ _ => rfl)) (pa_cons (pv 3) pa_nil)))) (pa_cons (pe_ix ix_tup (pv 2) pe_int (fun _ _ => rfl)) pa_nil)))))))
      pss_nil)
    (pss_cons (ps_if (pt_cmpR op_eq (pv 6) pe_int (nomark _))
      (pss_one (ps_ret (pe_tup (pa_cons pe_str (pa_cons (pe_ix ix_tup (pv 2) pe_int (fun _ _ => rfl)) (pa_cons (pe_ix ix_tup (pv 2) pe_int (fun _ _ => rfl)) (pa_cons (pe_ix ix_tup (pv 2) pe_int (fun _ _ => rfl)) pa_nil)))))))
      pss_nil)
    (pss_one (ps_ret (pe_tup (pa_cons pe_str (pa_cons (pe_ix ix_tup (pv 2) pe_int (fun _ _ => rfl)) (pa_cons (pe_ix ix_tup (pv 2) pe_int (fun _ _ => rfl)) (pa_cons (pv 5) pa_nil)))))))))))))), ?_⟩
    walk_at "rd"
    refine ⟨na, _, rfl, .inr hna, fun M nM => ?_⟩
    have sM := same_new nM (o := .lst (ns.map V.str))
    have hM := upd_same (H := H) (a := M) (o := .lst (ns.map V.str))
    generalize upd H M (.lst (ns.map V.str)) = H1 at sM hM ⊢
    walk_at "rd"
    refine ⟨sz (by show 3 ≤ 100000; decide), fun N nN => ?_⟩
    have sN := same_new nN (o := .lst [V.str (Str.ofString ""), .str (Str.ofString "zz"), .str (Str.ofString "a")])
    have hN := upd_same (H := H1) (a := N) (o := .lst [V.str (Str.ofString ""), .str (Str.ofString "zz"), .str (Str.ofString "a")])
    refine ⟨M, N, ns.map V.str, [V.str (Str.ofString ""), .str (Str.ofString "zz"), .str (Str.ofString "a")], rfl, rfl, sN _ _ hM, hN, sz (by rw [List.length_map]; show ns.length + 3 ≤ 100000; omega), fun G nG => ?_⟩
    have sG := same_new nG (o := .lst (ns.map V.str ++ [V.str (Str.ofString ""), .str (Str.ofString "zz"), .str (Str.ofString "a")]))
    have hG := upd_same (H := upd H1 N (.lst [V.str (Str.ofString ""), .str (Str.ofString "zz"), .str (Str.ofString "a")])) (a := G) (o := .lst (ns.map V.str ++ [V.str (Str.ofString ""), .str (Str.ofString "zz"), .str (Str.ofString "a")]))
    have s03 := sM.trans (sN.trans sG)
    generalize upd (upd H1 N (.lst [V.str (Str.ofString ""), .str (Str.ofString "zz"), .str (Str.ofString "a")])) G (.lst (ns.map V.str ++ [V.str (Str.ofString ""), .str (Str.ofString "zz"), .str (Str.ofString "a")])) = H3 at sG hG s03 ⊢
    have nGs := src_ne (src_same hA (sM.trans sN)) nG
    have hA3 := src_same hA s03
    walk_at "rd"
    refine ⟨na, _, rfl, .inr (Bx.Same.tup s03 hna), ?_⟩
    walk_at "rd"
    refine draw_of (lim := (((ns.map V.str).length : Nat) : Int) + 3) hA3 ⟨by omega, by rw [List.length_map]; omega⟩ fun r4 H4 h40 h41 s4 hA4 => ?_
    rw [List.length_map] at h41
    obtain ⟨m, o, rfl, hm, oko⟩ := oth tx [Str.ofString "", Str.ofString "zz", Str.ofString "a"] rfl (by decide +kernel) h40 (by rw [List.length_append]; show (r4 : Int) < ((ns.length + 3 : Nat) : Int); omega)
    refine ⟨_, _, _, _, rfl, rfl, sq (s4 _ _ nGs.symm hG), atI_nat hm, ?_⟩
    walk_at "rd"
    refine draw_of (lim := 5) hA4 (by decide) fun r5 H5 _ _ s5 hA5 => ?_
    have s05 : SameBut src H H5 := (Bx.Same.but s03).trans (s4.trans s5)
    have dx5 := dp_tk (tk_but hA s05) _ _ (tup_ln1 x) dx
    have nilE : ∀ (y : Ln) (T : Addr) (o : HO) (H6 : Hp), SameBut src H5 H6 → Src H6 src → H6 T = none → Dp K (upd H6 T o) (.ref T) (lnD y) → OkB 10000 y → Q (.ref T) (upd H6 T o) := fun y T o H6 s6 hA6 nT d ok => q (.ref T) y _ (s05.trans (s6.trans (Bx.Same.but (same_new nT)))) (src_same hA6 (same_new nT)) d ok
    walk_at "rd"
    cases x with
    | giv i =>
      have bi : i.natAbs ≤ 1000 := okx
      obtain ⟨t, us, rfl, ht, ha⟩ := dp_tup dx5
      cases ha with
      | cons a1 ha =>
      cases ha with
      | cons a2 ha =>
      cases ha
      cases a1
      cases a2
      refine ⟨_, _, _, _, rfl, rfl, ht, atI_nat (j := 0) rfl, ?_⟩
      walk_at "rd"
      refine ite2 (fun _ => ?_) (fun _ => ?_)
      · walk_at "rd"
        refine ⟨_, _, _, _, rfl, rfl, ht, atI_nat (j := 1) rfl, ?_⟩
        walk_at "rd"
        refine ⟨_, _, _, _, rfl, rfl, ht, atI_nat (j := 1) rfl, ?_⟩
        walk_at "rd"
        show spIndex _ _ _ _
        unfold spIndex
        refine ⟨src, i, k, rfl, hA5, by omega, by omega, fun r6 H6 s6 hA6 b6 => ?_⟩
        walk_at "rd"
        refine ⟨sz (by show 4 ≤ 100000; decide), fun T nT => ?_⟩
        exact nilE (.cut i r6 o) T _ H6 s6 hA6 nT (dp_cut (sqt upd_same)) ⟨by omega, by omega, oko⟩
      · walk_at "rd"
        refine ⟨_, _, _, _, rfl, rfl, ht, atI_nat (j := 1) rfl, ?_⟩
        walk_at "rd"
        show spIndex _ _ _ _
        unfold spIndex
        refine ⟨src, i, c, rfl, hA5, by omega, by omega, fun r6 H6 s6 hA6 b6 => ?_⟩
        walk_at "rd"
        refine ⟨sz (by show 2 ≤ 100000; decide), fun T nT => ?_⟩
        exact nilE (.giv r6) T _ H6 s6 hA6 nT (dp_giv (sqt upd_same)) b6
    | cut i j n =>
      have bij : i.natAbs ≤ 1000 ∧ j.natAbs ≤ 1000 ∧ PyData.strOk n = true := okx
      obtain ⟨t, us, rfl, ht, ha⟩ := dp_tup dx5
      cases ha with
      | cons a1 ha =>
      cases ha with
      | cons a2 ha =>
      cases ha with
      | cons a3 ha =>
      cases ha with
      | cons a4 ha =>
      cases ha
      cases a1
      cases a2
      cases a3
      cases a4
      refine ⟨_, _, _, _, rfl, rfl, ht, atI_nat (j := 0) rfl, ?_⟩
      walk_at "rd"
      refine ite2 (fun _ => ?_) (fun _ => ?_)
      · walk_at "rd"
        refine ⟨_, _, _, _, rfl, rfl, ht, atI_nat (j := 1) rfl, ?_⟩
        refine ⟨sz (by show 2 ≤ 100000; decide), fun T nT => ?_⟩
        exact nilE (.giv i) T _ H5 (SameBut.refl _ _) hA5 nT (dp_giv (sqt upd_same)) (show i.natAbs ≤ 10000 by omega)
      walk_at "rd"
      refine ite2 (fun _ => ?_) (fun _ => ?_)
      · walk_at "rd"
        refine ⟨_, _, _, _, rfl, rfl, ht, atI_nat (j := 1) rfl, ?_⟩
        walk_at "rd"
        show spIndex _ _ _ _
        unfold spIndex
        refine ⟨src, i, k, rfl, hA5, by omega, by omega, fun r6 H6 s6 hA6 b6 => ?_⟩
        walk_at "rd"
        refine ⟨_, _, _, _, rfl, rfl, (sqt_but hA5 s6 ht), atI_nat (j := 2) rfl, ?_⟩
        walk_at "rd"
        refine ⟨_, _, _, _, rfl, rfl, (sqt_but hA5 s6 ht), atI_nat (j := 3) rfl, ?_⟩
        refine ⟨sz (by show 4 ≤ 100000; decide), fun T nT => ?_⟩
        exact nilE (.cut r6 j n) T _ H6 s6 hA6 nT (dp_cut (sqt upd_same)) ⟨by omega, by omega, bij.2.2⟩
      walk_at "rd"
      refine ite2 (fun _ => ?_) (fun _ => ?_)
      · walk_at "rd"
        refine ⟨_, _, _, _, rfl, rfl, ht, atI_nat (j := 1) rfl, ?_⟩
        walk_at "rd"
        refine ⟨_, _, _, _, rfl, rfl, ht, atI_nat (j := 2) rfl, ?_⟩
        walk_at "rd"
        show spIndex _ _ _ _
        unfold spIndex
        refine ⟨src, j, k, rfl, hA5, by omega, by omega, fun r6 H6 s6 hA6 b6 => ?_⟩
        walk_at "rd"
        refine ⟨_, _, _, _, rfl, rfl, (sqt_but hA5 s6 ht), atI_nat (j := 3) rfl, ?_⟩
        refine ⟨sz (by show 4 ≤ 100000; decide), fun T nT => ?_⟩
        exact nilE (.cut i r6 n) T _ H6 s6 hA6 nT (dp_cut (sqt upd_same)) ⟨by omega, by omega, bij.2.2⟩
      walk_at "rd"
      refine ite2 (fun _ => ?_) (fun _ => ?_)
      · walk_at "rd"
        refine ⟨_, _, _, _, rfl, rfl, ht, atI_nat (j := 2) rfl, ?_⟩
        walk_at "rd"
        refine ⟨_, _, _, _, rfl, rfl, ht, atI_nat (j := 1) rfl, ?_⟩
        walk_at "rd"
        refine ⟨_, _, _, _, rfl, rfl, ht, atI_nat (j := 3) rfl, ?_⟩
        refine ⟨sz (by show 4 ≤ 100000; decide), fun T nT => ?_⟩
        exact nilE (.cut j i n) T _ H5 (SameBut.refl _ _) hA5 nT (dp_cut (sqt upd_same)) ⟨by omega, by omega, bij.2.2⟩
      walk_at "rd"
      refine ⟨_, _, _, _, rfl, rfl, ht, atI_nat (j := 1) rfl, ?_⟩
      walk_at "rd"
      refine ⟨_, _, _, _, rfl, rfl, ht, atI_nat (j := 2) rfl, ?_⟩
      walk_at "rd"
      refine ⟨sz (by show 4 ≤ 100000; decide), fun T nT => ?_⟩
      exact nilE (.cut i j o) T _ H5 (SameBut.refl _ _) hA5 nT (dp_cut (sqt upd_same)) ⟨by omega, by omega, oko⟩
end
end K12
namespace K12
local macro_rules | `(tactic| walk_at "rd") => `(tactic| repeat (first | refine ⟨rfl, ?_⟩ | refine ⟨_, rfl, ?_⟩ | refine ⟨_, _, rfl, rfl, ?_⟩ | refine ⟨⟨_, rfl⟩, ?_⟩))
open PySem PySem.Spec PyProof.Rows L2 Bx TL Dx Zx Ow Sup NdefX Px
theorem ixN_of {n j : Nat} (h : j < n) : ixN n (j : Int) = some j := by
  unfold ixN
  rw [if_pos (by omega), if_pos (by omega), Int.toNat_natCast]
section
variable {P : Program} {w : World} {K : PySem.W.Frag} {mg : Str → Option Value} {base : Heap}
@[irreducible] def spChg (K : PySem.W.Frag) : Sp := fun vs H Q _ => ∃ (s na t : Addr) (zs : List V) (ns : List Str) (lns : List Ln), vs = [.ref s, .ref na, .ref t] ∧ Src H s ∧ SqT K H na (ns.map V.str) ∧ (∀ z ∈ ns, Tx 17 z) ∧ ns.length ≤ 20 ∧ SqT K H t zs ∧ DpAll K H zs (lns.map lnD) ∧ (∀ x ∈ lns, OkB 1000 x) ∧ lns.length ≤ 300 ∧
  ∀ (G : Addr) (us : List V) (ms : List Ln) (H' : Hp), SameBut s H H' → Src H' s → SqT K H' G us → DpAll K H' us (ms.map lnD) → (∀ x ∈ ms, OkB 10000 x) → ms.length ≤ 1000 → Q (.ref G) H'
set_option maxHeartbeats 4000000 in
theorem ok_changed {f : Addr} {fd : FuncData} (F : Fun K "_law_changed" "_law_changed" s__law_changed f fd) (m_len : mg "len" = none) (m_list : mg "list" = none) (m_tuple : mg "tuple" = none) (m_int : mg "int" = none) (C__law_draw : CDraw P w K mg base) (C__law_entry : Cal P w K mg base "_law_entry" 3 ["_law_source_here", "_law_names", "_law_entry_here", "_law_at", "_law_count"] (spEntry K)) : FnOk P w K mg base CX0 4 f fd ["_law_source_here", "_law_names", "_law_certificate"] (spChg K) := by
  refine F.ok sc__law_changed (fun vs H Q E h => ?_) (fun cdv A outer s H vs Q E hr h => ?_)
  · unfold spChg at h
    obtain ⟨s, na, t, zs, ns, lns, rfl, _⟩ := h
    rfl
  · unfold spChg at h
    obtain ⟨src, na, t, zs, ns, lns, rfl, hA, hna, tx, nl, ht, dz, okz, ll, q⟩ := h
    have zl : zs.length = lns.length := by rw [da_len dz, List.length_map]
    have fin : ∀ (G : Addr) (us : List V) (ms : List Ln) (H' : Hp), SameBut src H H' → Src H' src → H' G = none → DpAll K H' us (ms.map lnD) → (∀ x ∈ ms, OkB 10000 x) → ms.length ≤ 1000 → Q (.ref G) (upd H' G (.tup us)) := fun G us ms H' s a nG d ok l => q G us ms _ (s.trans (Bx.Same.but (same_new nG))) (src_same a (same_new nG)) (sqt upd_same) (dpAll_same (same_new nG) d) ok l
    refine ⟨_, (pss_cons (ps_if (pt_cmpR op_eq (pe_callB call_len_seq (by rfl) m_len PySem.boot_len (pa_cons (pv 2) pa_nil)) pe_int (nomark _))
      (pss_one (ps_ret (pe_tup (pa_cons (pe_tup (pa_cons pe_str (pa_cons (pe_op op_sub (pe_cal C__law_draw (hr.mono (by decide)) (pa_cons (pv 0) (pa_cons pe_int pa_nil))) pe_int) pa_nil))) pa_nil))))
      pss_nil)
    (pss_cons (ps_set (i := 3) sc__law_changed.nd rfl (Or.inl rfl) (pe_callTy (T := "list") call_list_of (by rfl) m_list (by decide +kernel) (pa_cons (pv 2) pa_nil)))
    (pss_cons (ps_set (i := 4) sc__law_changed.nd rfl (Or.inl rfl) (pe_op op_modN (pe_callTy (T := "int") call_int1 (by rfl) m_int (by decide +kernel) (pa_cons (pe_cal C__law_draw (hr.mono (by decide)) (pa_cons (pv 0) (pa_cons pe_int pa_nil))) pa_nil)) (pe_callB call_len_seq (by rfl) m_len PySem.boot_len (pa_cons (pv 3) pa_nil))))
    (pss_cons (ps_set (i := 5) sc__law_changed.nd rfl (Or.inl rfl) (pe_op op_modN (pe_callTy (T := "int") call_int1 (by rfl) m_int (by decide +kernel) (pa_cons (pe_cal C__law_draw (hr.mono (by decide)) (pa_cons (pv 0) (pa_cons pe_int pa_nil))) pa_nil)) (pe_callB call_len_seq (by rfl) m_len PySem.boot_len (pa_cons (pv 3) pa_nil))))
    (pss_cons (ps_set (i := 6) sc__law_changed.nd rfl (Or.inl rfl) (pe_cal C__law_draw (hr.mono (by decide)) (pa_cons (pv 0) (pa_cons pe_int pa_nil))))
    (pss_cons (ps_if (pt_cmpR op_eq (pv 6) pe_int (nomark _))
      (pss_one (ps_ret (pe_callTy (T := "tuple") call_tuple_of (by rfl) m_tuple (by decide +kernel) (pa_cons (pe_op op_cat (pe_slice sl_list (pv 3) po_none (po_some (pv 4))) (pe_slice sl_list (pv 3) (po_some (pe_op op_add (pv 4) pe_int)) po_none)) pa_nil))))
      pss_nil)
    (pss_cons (ps_if (pt_cmpR op_eq (pv 6) pe_int (nomark _))
      (pss_one (ps_ret (pe_callTy (T := "tuple") call_tuple_of (by rfl) m_tuple (by decide +kernel) (pa_cons (pe_op op_cat (pe_op op_cat (pe_slice sl_list (pv 3) po_none (po_some (pv 4))) (pe_lst (pa_cons (pe_ix ix_list (pv 3) (pv 4) (fun _ _ => rfl)) pa_nil))) (pe_slice sl_list (pv 3) (po_some (pv 4)) po_none)) pa_nil))))
      pss_nil)
    (pss_cons (ps_if (pt_cmpR op_eq (pv 6) pe_int (nomark _))
      (pss_cons (ps_asg (pe_ix ix_tup (pv 2) (pv 5) (fun _ _ => rfl)) (pg_sub (pv 3) (pv 4) set_list))
    (pss_cons (ps_asg (pe_ix ix_tup (pv 2) (pv 4) (fun _ _ => rfl)) (pg_sub (pv 3) (pv 5) set_list))
    (pss_one (ps_ret (pe_callTy (T := "tuple") call_tuple_of (by rfl) m_tuple (by decide +kernel) (pa_cons (pv 3) pa_nil))))))
      pss_nil)
    (pss_cons (ps_if (pt_cmpR op_eq (pv 6) pe_int (nomark _))
      (pss_one (ps_ret (pe_callTy (T := "tuple") call_tuple_of (by rfl) m_tuple (by decide +kernel) (pa_cons (pe_slice sl_list (pv 3) po_none (po_some (pe_op op_add (pv 4) pe_int))) pa_nil))))
      pss_nil)
    (pss_cons (ps_asg (pe_cal C__law_entry (hr.mono (by decide)) (pa_cons (pv 0) (pa_cons (pv 1) (pa_cons (pe_ix ix_list (pv 3) (pv 4) (fun _ _ => rfl)) (pa_cons (pv 4) (pa_cons (pe_callB call_len_seq (by rfl) m_len PySem.boot_len (pa_cons (pv 3) pa_nil)) pa_nil)))))) (pg_sub (pv 3) (pv 4) set_list))
    (pss_one (ps_ret (pe_callTy (T := "tuple") call_tuple_of (by rfl) m_tuple (by decide +kernel) (pa_cons (pv 3) pa_nil)))))))))))))), ?_⟩
    walk_at "rd"
    refine ⟨t, _, rfl, .inr ht, ?_⟩
    walk_at "rd"
    refine ite2 (fun _ => ?_) (fun h6 => ?_)
    · walk_at "rd"
      refine draw_of (lim := 5) hA (by decide) fun r1 H1 h10 h11 s1 hA1 => ?_
      walk_at "rd"
      refine ⟨sz (by show 2 ≤ 100000; decide), fun T nT => ?_⟩
      have s2 := same_new nT (o := .tup [.str (Str.ofString "given"), .int (r1 - 1)])
      have hT : Dp K (upd H1 T (.tup [.str (Str.ofString "given"), .int (r1 - 1)])) (.ref T) (lnD (.giv (r1 - 1))) := dp_giv (sqt upd_same)
      generalize upd H1 T (.tup [.str (Str.ofString "given"), .int (r1 - 1)]) = H2 at s2 hT ⊢
      refine ⟨sz (by show 1 ≤ 100000; decide), fun G nG => ?_⟩
      refine fin G [.ref T] [.giv (r1 - 1)] H2 (s1.trans (Bx.Same.but s2)) (src_same hA1 s2) nG (da_one hT) (fun x hx => ?_) (by show 1 ≤ 1000; decide)
      rw [List.mem_singleton.mp hx]
      show (r1 - 1).natAbs ≤ 10000
      omega
    have n0 : 0 < zs.length := by
      rcases Nat.eq_zero_or_pos zs.length with z | z
      · exact absurd (show decide (V.int (zs.length : Nat) = V.int 0) = true by rw [z]; rfl) h6
      · exact z
    walk_at "rd"
    refine ⟨t, _, rfl, .inr ht, fun M nM => ?_⟩
    have sM := same_new nM (o := .lst zs)
    have hM := upd_same (H := H) (a := M) (o := .lst zs)
    have nMs := src_ne hA nM
    have hA1 := src_upd (u := .lst zs) hA nMs
    generalize upd H M (.lst zs) = H1 at sM hM hA1 ⊢
    walk_at "rd"
    refine draw_of (lim := 3000) hA1 (by decide) fun r2 H2 h20 h21 s2 hA2 => ?_
    have hM2 := s2 _ _ nMs.symm hM
    walk_at "rd"
    refine .inl ⟨_, rfl, ?_⟩
    walk_at "rd"
    refine ⟨M, _, rfl, .inl (sq hM2), ?_⟩
    refine ⟨_, _, rfl, rfl, by omega, ?_⟩
    have hfm : ∀ x : Int, 0 ≤ x.fmod (zs.length : Nat) ∧ x.fmod (zs.length : Nat) < (zs.length : Nat) := fun x => by
      rw [Int.fmod_eq_emod_of_nonneg _ (by omega)]
      exact ⟨Int.emod_nonneg _ (by omega), Int.emod_lt_of_pos _ (by omega)⟩
    obtain ⟨hk0, hk1⟩ := hfm r2
    dsimp only
    generalize r2.fmod (zs.length : Nat) = rk at hk0 hk1 ⊢
    obtain ⟨k, rfl⟩ := Int.eq_ofNat_of_zero_le hk0
    have hk : k < zs.length := by omega
    walk_at "rd"
    refine draw_of (lim := 3000) hA2 (by decide) fun r3 H3 h30 h31 s3 hA3 => ?_
    have hM3 := s3 _ _ nMs.symm hM2
    walk_at "rd"
    refine .inl ⟨_, rfl, ?_⟩
    walk_at "rd"
    refine ⟨M, _, rfl, .inl (sq hM3), ?_⟩
    refine ⟨_, _, rfl, rfl, by omega, ?_⟩
    obtain ⟨ho0, ho1⟩ := hfm r3
    dsimp only
    generalize r3.fmod (zs.length : Nat) = ro at ho0 ho1 ⊢
    obtain ⟨o, rfl⟩ := Int.eq_ofNat_of_zero_le ho0
    have ho : o < zs.length := by omega
    walk_at "rd"
    refine draw_of (lim := 8) hA3 (by decide) fun r4 H4 _ _ s4 hA4 => ?_
    have hM4 := s4 _ _ nMs.symm hM3
    have s04 : SameBut src H H4 := (Bx.Same.but sM).trans (s2.trans (s3.trans s4))
    have hz4 := da_tk (tk_but hA s04) _ _ (tup_lns lns) dz
    have ht4 := sqt_but hA s04 ht
    have okz4 : ∀ x ∈ lns, OkB 10000 x := fun x hx => (okz x hx).mono (by decide)
    walk_at "rd"
    refine ite2 (fun _ => ?_) (fun _ => ?_)
    · walk_at "rd"
      obtain ⟨m1, d1, o1, l1⟩ := da_cut hz4 none (some (k : Int))
      refine ⟨M, zs, rfl, sq hM4, fun A1 nA => ?_⟩
      have s5 := same_new nA (o := .lst (cutV zs none (some (k : Int))))
      have hA5 := upd_same (H := H4) (a := A1) (o := .lst (cutV zs none (some (k : Int))))
      have d1' := dpAll_same s5 d1
      generalize upd H4 A1 (.lst (cutV zs none (some (k : Int)))) = H5 at s5 hA5 d1' ⊢
      have lv1 : (cutV zs none (some (k : Int))).length = m1.length := by rw [da_len d1, List.length_map]
      generalize cutV zs none (some (k : Int)) = c1 at hA5 d1' d1 lv1 ⊢
      walk_at "rd"
      obtain ⟨m2, d2, o2, l2⟩ := da_cut (dpAll_same s5 hz4) (some ((k : Int) + 1)) none
      refine ⟨M, zs, rfl, sq (s5 _ _ hM4), fun D nD => ?_⟩
      have s6 := same_new nD (o := .lst (cutV zs (some ((k : Int) + 1)) none))
      have hD := upd_same (H := H5) (a := D) (o := .lst (cutV zs (some ((k : Int) + 1)) none))
      have d2' := dpAll_same s6 d2
      have lv2 : (cutV zs (some ((k : Int) + 1)) none).length = m2.length := by rw [da_len d2, List.length_map]
      generalize upd H5 D (.lst (cutV zs (some ((k : Int) + 1)) none)) = H6 at s6 hD d2' ⊢
      generalize cutV zs (some ((k : Int) + 1)) none = c3 at hD d2' d2 lv2
      refine ⟨A1, D, c1, c3, rfl, rfl, s6 _ _ hA5, hD, sz (by omega), fun r nr => ?_⟩
      have s7 := same_new nr (o := .lst (c1 ++ c3))
      have hr7 := upd_same (H := H6) (a := r) (o := .lst (c1 ++ c3))
      have dE : DpAll K (upd H6 r (.lst (c1 ++ c3))) (c1 ++ c3) ((m1 ++ m2).map lnD) := by
        rw [List.map_append]
        exact da_app (dpAll_same (s6.trans s7) d1') (dpAll_same s7 d2')
      have s47 := s5.trans (s6.trans s7)
      generalize upd H6 r (.lst (c1 ++ c3)) = H7 at s7 hr7 dE s47 ⊢
      refine ⟨r, _, rfl, .inl ⟨sq hr7, fun G nG => ?_⟩⟩
      exact fin G _ (m1 ++ m2) H7 (s04.trans (Bx.Same.but s47)) (src_same hA4 s47) nG dE (fun x hx => (List.mem_append.mp hx).elim (fun h => okz4 x (o1 x h)) (fun h => okz4 x (o2 x h))) (by rw [List.length_append]; omega)
    walk_at "rd"
    refine ite2 (fun _ => ?_) (fun _ => ?_)
    · walk_at "rd"
      obtain ⟨m1, d1, o1, l1⟩ := da_cut hz4 none (some (k : Int))
      refine ⟨M, zs, rfl, sq hM4, fun A1 nA => ?_⟩
      have s5 := same_new nA (o := .lst (cutV zs none (some (k : Int))))
      have hA5 := upd_same (H := H4) (a := A1) (o := .lst (cutV zs none (some (k : Int))))
      have d1' := dpAll_same s5 d1
      generalize upd H4 A1 (.lst (cutV zs none (some (k : Int)))) = H5 at s5 hA5 d1' ⊢
      have lv1 : (cutV zs none (some (k : Int))).length = m1.length := by rw [da_len d1, List.length_map]
      generalize cutV zs none (some (k : Int)) = c1 at hA5 d1' d1 lv1 ⊢
      have evk := List.getElem?_eq_getElem hk
      obtain ⟨lk, hlk, dlk⟩ := da_atM hz4 evk
      have oklk := okz4 lk (List.mem_of_getElem? hlk)
      generalize zs[k] = vk at evk dlk
      walk_at "rd"
      refine ⟨_, _, _, _, rfl, rfl, sq (s5 _ _ hM4), atI_nat evk, ?_⟩
      refine ⟨sz (by show 1 ≤ 100000; decide), fun B nB => ?_⟩
      have sB := same_new nB (o := .lst [vk])
      have hB := upd_same (H := H5) (a := B) (o := .lst [vk])
      generalize upd H5 B (.lst [vk]) = H5b at sB hB ⊢
      refine ⟨A1, B, c1, [vk], rfl, rfl, sB _ _ hA5, hB, sz (by show c1.length + 1 ≤ 100000; omega), fun C nC => ?_⟩
      have sC := same_new nC (o := .lst (c1 ++ [vk]))
      have hC := upd_same (H := H5b) (a := C) (o := .lst (c1 ++ [vk]))
      generalize upd H5b C (.lst (c1 ++ [vk])) = H5c at sC hC ⊢
      have s4c := s5.trans (sB.trans sC)
      have dC : DpAll K H5c (c1 ++ [vk]) ((m1 ++ [lk]).map lnD) := by
        rw [List.map_append]
        exact da_app (dpAll_same (sB.trans sC) d1') (da_one (dp_same s4c dlk))
      have lC : (c1 ++ [vk]).length = m1.length + 1 := by rw [List.length_append, lv1]; rfl
      generalize c1 ++ [vk] = c2 at hC dC lC
      walk_at "rd"
      obtain ⟨m2, d2, o2, l2⟩ := da_cut (dpAll_same s4c hz4) (some (k : Int)) none
      refine ⟨M, zs, rfl, sq (s4c _ _ hM4), fun D nD => ?_⟩
      have s6 := same_new nD (o := .lst (cutV zs (some (k : Int)) none))
      have hD := upd_same (H := H5c) (a := D) (o := .lst (cutV zs (some (k : Int)) none))
      have d2' := dpAll_same s6 d2
      have lv2 : (cutV zs (some (k : Int)) none).length = m2.length := by rw [da_len d2, List.length_map]
      generalize upd H5c D (.lst (cutV zs (some (k : Int)) none)) = H6 at s6 hD d2' ⊢
      generalize cutV zs (some (k : Int)) none = c3 at hD d2' d2 lv2
      refine ⟨C, D, c2, c3, rfl, rfl, s6 _ _ hC, hD, sz (by omega), fun r nr => ?_⟩
      have s7 := same_new nr (o := .lst (c2 ++ c3))
      have hr7 := upd_same (H := H6) (a := r) (o := .lst (c2 ++ c3))
      have dE : DpAll K (upd H6 r (.lst (c2 ++ c3))) (c2 ++ c3) (((m1 ++ [lk]) ++ m2).map lnD) := by
        rw [List.map_append]
        exact da_app (dpAll_same (s6.trans s7) dC) (dpAll_same s7 d2')
      have s47 := s4c.trans (s6.trans s7)
      generalize upd H6 r (.lst (c2 ++ c3)) = H7 at s7 hr7 dE s47 ⊢
      refine ⟨r, _, rfl, .inl ⟨sq hr7, fun G nG => ?_⟩⟩
      refine fin G _ ((m1 ++ [lk]) ++ m2) H7 (s04.trans (Bx.Same.but s47)) (src_same hA4 s47) nG dE (fun x hx => ?_) (by rw [List.length_append, List.length_append]; show m1.length + 1 + m2.length ≤ 1000; omega)
      rcases List.mem_append.mp hx with h | h
      · rcases List.mem_append.mp h with h | h
        · exact okz4 x (o1 x h)
        · rw [List.mem_singleton.mp h]
          exact oklk
      · exact okz4 x (o2 x h)
    walk_at "rd"
    refine ite2 (fun _ => ?_) (fun _ => ?_)
    · walk_at "rd"
      have evk := List.getElem?_eq_getElem hk
      obtain ⟨lk, hlk, dlk⟩ := da_atM hz4 evk
      have oklk := okz4 lk (List.mem_of_getElem? hlk)
      generalize zs[k] = vk at evk dlk
      have evo := List.getElem?_eq_getElem ho
      obtain ⟨lo, hlo, dlo⟩ := da_atM hz4 evo
      have oklo := okz4 lo (List.mem_of_getElem? hlo)
      generalize zs[o] = vo at evo dlo
      refine ⟨_, _, _, _, rfl, rfl, ht4, atI_nat evo, ?_⟩
      walk_at "rd"
      refine ⟨M, zs, _, k, rfl, rfl, hM4, ixN_of hk, ?_⟩
      have tk5 := tk_lst (K := K) (o := .lst (zs.set k vo)) hM4
      have s05 := but_at (o := .lst (zs.set k vo)) nM s04
      have hM5 := upd_same (H := H4) (a := M) (o := .lst (zs.set k vo))
      have hA5 := src_upd (u := .lst (zs.set k vo)) hA4 nMs
      have hz5 := da_set (da_tk tk5 _ _ (tup_lns lns) hz4) (dp_tk tk5 _ _ (tup_ln1 lo) dlo) k
      have dlk5 := dp_tk tk5 _ _ (tup_ln1 lk) dlk
      generalize upd H4 M (.lst (zs.set k vo)) = H5 at s05 hM5 hA5 hz5 dlk5 ⊢
      walk_at "rd"
      refine ⟨_, _, _, _, rfl, rfl, sqt_but hA s05 ht, atI_nat evk, ?_⟩
      walk_at "rd"
      refine ⟨M, _, _, o, rfl, rfl, hM5, ixN_of (by rw [List.length_set]; exact ho), ?_⟩
      have tk6 := tk_lst (K := K) (o := .lst ((zs.set k vo).set o vk)) hM5
      have s06 := but_at (o := .lst ((zs.set k vo).set o vk)) nM s05
      have hM6 := upd_same (H := H5) (a := M) (o := .lst ((zs.set k vo).set o vk))
      have hA6 := src_upd (u := .lst ((zs.set k vo).set o vk)) hA5 nMs
      rw [← List.map_set] at hz5
      have hz6 := da_set (da_tk tk6 _ _ (tup_lns _) hz5) (dp_tk tk6 _ _ (tup_ln1 lk) dlk5) o
      rw [← List.map_set] at hz6
      generalize upd H5 M (.lst ((zs.set k vo).set o vk)) = H6 at s06 hM6 hA6 hz6 ⊢
      walk_at "rd"
      refine ⟨M, _, rfl, .inl ⟨sq hM6, fun G nG => ?_⟩⟩
      refine fin G _ ((lns.set k lo).set o lk) H6 s06 hA6 nG hz6 (fun x hx => ?_) (by rw [List.length_set, List.length_set]; omega)
      rcases mem_set hx with h | h
      · rcases mem_set h with h | h
        · exact okz4 x h
        · rw [h]
          exact oklo
      · rw [h]
        exact oklk
    walk_at "rd"
    refine ite2 (fun _ => ?_) (fun _ => ?_)
    · walk_at "rd"
      obtain ⟨m1, d1, o1, l1⟩ := da_cut hz4 none (some ((k : Int) + 1))
      refine ⟨M, zs, rfl, sq hM4, fun A1 nA => ?_⟩
      have s5 := same_new nA (o := .lst (cutV zs none (some ((k : Int) + 1))))
      have hA5 := upd_same (H := H4) (a := A1) (o := .lst (cutV zs none (some ((k : Int) + 1))))
      have d1' := dpAll_same s5 d1
      generalize upd H4 A1 (.lst (cutV zs none (some ((k : Int) + 1)))) = H5 at s5 hA5 d1' ⊢
      refine ⟨A1, _, rfl, .inl ⟨sq hA5, fun G nG => ?_⟩⟩
      exact fin G _ m1 H5 (s04.trans (Bx.Same.but s5)) (src_same hA4 s5) nG d1' (fun x hx => okz4 x (o1 x hx)) (by omega)
    have evk := List.getElem?_eq_getElem hk
    obtain ⟨lk, hlk, dlk⟩ := da_atM hz4 evk
    have oklk := okz lk (List.mem_of_getElem? hlk)
    generalize zs[k] = vk at evk dlk
    walk_at "rd"
    refine ⟨_, _, _, _, rfl, rfl, sq hM4, atI_nat evk, ?_⟩
    walk_at "rd"
    refine ⟨M, _, rfl, .inl (sq hM4), ?_⟩
    walk_at "rd"
    show spEntry K _ _ _ _
    unfold spEntry
    refine ⟨src, na, vk, ns, lk, k, zs.length, rfl, hA4, sqt_but hA s04 hna, tx, nl, dlk, oklk, by omega, by omega, fun v y H5 s5 hA5 dy oky => ?_⟩
    have hM5 := s5 _ _ nMs.symm hM4
    have hz5 := da_tk (tk_but hA4 s5) _ _ (tup_lns lns) hz4
    walk_at "rd"
    refine ⟨M, zs, _, k, rfl, rfl, hM5, ixN_of hk, ?_⟩
    have tk6 := tk_lst (K := K) (o := .lst (zs.set k v)) hM5
    have s06 := but_at (o := .lst (zs.set k v)) nM (s04.trans s5)
    have hM6 := upd_same (H := H5) (a := M) (o := .lst (zs.set k v))
    have hA6 := src_upd (u := .lst (zs.set k v)) hA5 nMs
    have hz6 := da_set (da_tk tk6 _ _ (tup_lns lns) hz5) (dp_tk tk6 _ _ (tup_ln1 y) dy) k
    rw [← List.map_set] at hz6
    generalize upd H5 M (.lst (zs.set k v)) = H6 at s06 hM6 hA6 hz6 ⊢
    walk_at "rd"
    refine ⟨M, _, rfl, .inl ⟨sq hM6, fun G nG => ?_⟩⟩
    refine fin G _ (lns.set k y) H6 s06 hA6 nG hz6 (fun x hx => ?_) (by rw [List.length_set]; omega)
    rcases mem_set hx with h | h
    · exact okz4 x h
    · rw [h]
      exact oky
@[irreducible] def spWild (K : PySem.W.Frag) : Sp := fun vs H Q _ => ∃ (s na : Addr) (ns : List Str), vs = [.ref s, .ref na] ∧ Src H s ∧ SqT K H na (ns.map V.str) ∧ (∀ z ∈ ns, Tx 17 z) ∧ ns.length ≤ 20 ∧
  ∀ (G : Addr) (us : List V) (ms : List Ln) (H' : Hp), SameBut s H H' → Src H' s → SqT K H' G us → DpAll K H' us (ms.map lnD) → (∀ x ∈ ms, OkB 10000 x) → ms.length ≤ 1000 → Q (.ref G) H'
set_option maxHeartbeats 2000000 in
theorem ok_wild {f : Addr} {fd : FuncData} (F : Fun K "_law_wild" "_law_wild" s__law_wild f fd) (m_len : mg "len" = none) (m_list : mg "list" = none) (m_tuple : mg "tuple" = none) (m_range : mg "range" = none) (C__law_draw : CDraw P w K mg base) : FnOk P w K mg base CX0 2 f fd ["_law_source_here", "_law_names"] (spWild K) := by
  refine F.ok sc__law_wild (fun vs H Q E h => ?_) (fun cdv A outer s H vs Q E hr h => ?_)
  · unfold spWild at h
    obtain ⟨s, na, ns, rfl, _⟩ := h
    rfl
  · unfold spWild at h
    obtain ⟨src, na, ns, rfl, hA, hna, tx, nl, q⟩ := h
    refine ⟨_, (pss_cons (ps_set (i := 2) sc__law_wild.nd rfl (Or.inl rfl) (pe_op op_cat (pe_callTy (T := "list") call_list_of (by rfl) m_list (by decide +kernel) (pa_cons (pv 1) pa_nil)) (pe_lst (pa_cons pe_str (pa_cons pe_str pa_nil)))))
    (pss_cons (ps_set (i := 3) sc__law_wild.nd rfl (Or.inl rfl) (pe_lst pa_nil))
    (pss_cons (ps_for PassesOwn.never rfl (pi_range1 (by rfl) m_range (pa_cons (pe_cal C__law_draw (hr.mono (by decide)) (pa_cons (pv 0) (pa_cons pe_int pa_nil))) pa_nil)) (pg_name (i := 4) sc__law_wild.nd rfl (Or.inl rfl))
      (pss_one (ps_if (pt_cmpR op_eq (pe_cal C__law_draw (hr.mono (by decide)) (pa_cons (pv 0) (pa_cons pe_int pa_nil))) pe_int (nomark _))
      (pss_one (ps_expr (pe_bm PySem.F.plainAttrs_list PySem.F.slot_list_append PySem.F.type_list_append mt_append (pv 3) (pa_cons (pe_tup (pa_cons pe_str (pa_cons (pe_op op_sub (pe_cal C__law_draw (hr.mono (by decide)) (pa_cons (pv 0) (pa_cons pe_int pa_nil))) pe_int) pa_nil))) pa_nil))))
      (pss_cons (ps_set (i := 5) sc__law_wild.nd rfl (Or.inl rfl) (pe_ix ix_list (pv 2) (pe_cal C__law_draw (hr.mono (by decide)) (pa_cons (pv 0) (pa_cons (pe_callB call_len_seq (by rfl) m_len PySem.boot_len (pa_cons (pv 2) pa_nil)) pa_nil))) (fun _ _ => rfl)))
    (pss_one (ps_expr (pe_bm PySem.F.plainAttrs_list PySem.F.slot_list_append PySem.F.type_list_append mt_append (pv 3) (pa_cons (pe_tup (pa_cons pe_str (pa_cons (pe_op op_sub (pe_cal C__law_draw (hr.mono (by decide)) (pa_cons (pv 0) (pa_cons pe_int pa_nil))) pe_int) (pa_cons (pe_op op_sub (pe_cal C__law_draw (hr.mono (by decide)) (pa_cons (pv 0) (pa_cons pe_int pa_nil))) pe_int) (pa_cons (pv 5) pa_nil))))) pa_nil))))))))
    (pss_one (ps_ret (pe_callTy (T := "tuple") call_tuple_of (by rfl) m_tuple (by decide +kernel) (pa_cons (pv 3) pa_nil))))))), ?_⟩
    walk_at "rd"
    refine ⟨na, _, rfl, .inr hna, fun M nM => ?_⟩
    have sM := same_new nM (o := .lst (ns.map V.str))
    have hM := upd_same (H := H) (a := M) (o := .lst (ns.map V.str))
    generalize upd H M (.lst (ns.map V.str)) = H1 at sM hM ⊢
    walk_at "rd"
    refine ⟨sz (by show 2 ≤ 100000; decide), fun N nN => ?_⟩
    have sN := same_new nN (o := .lst [V.str (Str.ofString ""), .str (Str.ofString "zz")])
    have hN := upd_same (H := H1) (a := N) (o := .lst [V.str (Str.ofString ""), .str (Str.ofString "zz")])
    refine ⟨M, N, ns.map V.str, [V.str (Str.ofString ""), .str (Str.ofString "zz")], rfl, rfl, sN _ _ hM, hN, sz (by rw [List.length_map]; show ns.length + 2 ≤ 100000; omega), fun G nG => ?_⟩
    have sG := same_new nG (o := .lst (ns.map V.str ++ [V.str (Str.ofString ""), .str (Str.ofString "zz")]))
    have hG := upd_same (H := upd H1 N (.lst [V.str (Str.ofString ""), .str (Str.ofString "zz")])) (a := G) (o := .lst (ns.map V.str ++ [V.str (Str.ofString ""), .str (Str.ofString "zz")]))
    have s03 := sM.trans (sN.trans sG)
    have nGs := src_ne (src_same hA (sM.trans sN)) nG
    generalize upd (upd H1 N (.lst [V.str (Str.ofString ""), .str (Str.ofString "zz")])) G (.lst (ns.map V.str ++ [V.str (Str.ofString ""), .str (Str.ofString "zz")])) = H3 at sG hG s03 ⊢
    have oths := @oth ns tx [V.str (Str.ofString ""), .str (Str.ofString "zz")] [Str.ofString "", Str.ofString "zz"] rfl (by decide +kernel)
    have gl : (ns.map V.str ++ [V.str (Str.ofString ""), .str (Str.ofString "zz")]).length = ns.length + 2 := by rw [List.length_append, List.length_map]; rfl
    have ol : (ns ++ [Str.ofString "", Str.ofString "zz"]).length = ns.length + 2 := by rw [List.length_append]; rfl
    rw [ol] at oths
    generalize ns.map V.str ++ [V.str (Str.ofString ""), .str (Str.ofString "zz")] = gs at hG sG oths gl ⊢
    have hA3 := src_same hA s03
    walk_at "rd"
    refine ⟨sz (by decide), fun L nL => ?_⟩
    have nLs := src_ne hA3 nL
    have sL := same_new nL (o := .lst ([] : List V))
    have hL := upd_same (H := H3) (a := L) (o := .lst ([] : List V))
    have nL0 := s03.free nL
    have s04 := s03.trans sL
    have hA4 := src_same hA3 sL
    have hG4 := sL _ _ hG
    generalize upd H3 L (.lst []) = H4 at sL hL s04 hA4 hG4 ⊢
    walk_at "rd"
    refine draw_of (lim := 5) hA4 (by decide) fun r5 H5 h50 h51 s5 hA5 => ?_
    have hL5 := s5 _ _ nLs.symm hL
    walk_at "rd"
    refine ⟨by omega, by omega, for_it walk_range (fun i σ H' => ∃ (o4 o5 : Option V) (us : List V) (ms : List Ln), σ = [some (.ref src), some (.ref na), some (.ref G), some (.ref L), o4, o5] ∧ SameBut src H H' ∧ Src H' src ∧ H' G = some (.lst gs) ∧ H' L = some (.lst us) ∧ DpAll K H' us (ms.map lnD) ∧ (∀ x ∈ ms, OkB 10000 x) ∧ ms.length ≤ i)
      ⟨none, none, [], [], rfl, (Bx.Same.but s04).trans s5, hA5, s5 _ _ nGs.symm hG4, hL5, .nil, (fun x hx => by cases hx), Nat.le_refl _⟩ (fun _ _ _ _ _ => trivial) ?_ ?_⟩
    · rintro i x σ H6a H6 hi ⟨o4, o5, us, ms, rfl, s6, hA6, hG6, hL6, hus, okm, lm⟩ ⟨rfl, rfl⟩
      have ul : us.length = ms.length := by rw [da_len hus, List.length_map]
      have GL : G ≠ L := fun e => by
        have z := hG
        rw [e, nL] at z
        cases z
      have done : ∀ (T : Addr) (y : Ln) (H7 : Hp), SameBut src H6 H7 → Src H7 src → Dp K H7 (.ref T) (lnD y) → OkB 10000 y → ∃ (us' : List V) (ms' : List Ln), SameBut src H (upd H7 L (.lst (us ++ [.ref T]))) ∧ Src (upd H7 L (.lst (us ++ [.ref T]))) src ∧ (upd H7 L (.lst (us ++ [.ref T]))) G = some (.lst gs) ∧ (upd H7 L (.lst (us ++ [.ref T]))) L = some (.lst us') ∧ DpAll K (upd H7 L (.lst (us ++ [.ref T]))) us' (ms'.map lnD) ∧ (∀ x ∈ ms', OkB 10000 x) ∧ ms'.length ≤ i + 1 := fun T y H7 s7 hA7 dT ok => by
        have hL7 := s7 _ _ nLs.symm hL6
        have tk := tk_lst (K := K) (o := .lst (us ++ [.ref T])) hL7
        refine ⟨us ++ [.ref T], ms ++ [y], but_at nL0 (s6.trans s7), src_upd hA7 nLs, by rw [upd_ne GL]; exact s7 _ _ nGs.symm hG6, upd_same, ?_, fun x hx => ?_, by rw [List.length_append]; show ms.length + 1 ≤ i + 1; omega⟩
        · rw [List.map_append]
          exact da_app (da_tk tk _ _ (tup_lns _) (da_tk (tk_but hA6 s7) _ _ (tup_lns _) hus)) (da_one (dp_tk tk _ _ (tup_ln1 y) dT))
        · rcases List.mem_append.mp hx with h | h
          · exact okm x h
          · rw [List.mem_singleton.mp h]
            exact ok
      walk_at "rd"
      refine draw_of (lim := 2) hA6 (by decide) fun r7 H7 _ _ s7 hA7 => ?_
      have hL7 := s7 _ _ nLs.symm hL6
      walk_at "rd"
      refine ite2 (fun _ => ?_) (fun _ => ?_)
      · walk_at "rd"
        refine ⟨.inl ⟨rfl, _, sq hL7⟩, ?_⟩
        walk_at "rd"
        refine draw_of (lim := 10) hA7 (by decide) fun r8 H8 h80 h81 s8 hA8 => ?_
        walk_at "rd"
        refine ⟨sz (by show 2 ≤ 100000; decide), fun T nT => ?_⟩
        have sT := same_new nT (o := .tup [.str (Str.ofString "given"), .int (r8 - 1)])
        have hT : Dp K (upd H8 T (.tup [.str (Str.ofString "given"), .int (r8 - 1)])) (.ref T) (lnD (.giv (r8 - 1))) := dp_giv (sqt upd_same)
        have hA9 := src_same hA8 sT
        have s69 := s7.trans (s8.trans (Bx.Same.but sT))
        generalize upd H8 T (.tup [.str (Str.ofString "given"), .int (r8 - 1)]) = H9 at sT hT hA9 s69 ⊢
        obtain ⟨us', ms', m1, m2, m3, m4, m5, m6, m7⟩ := done T _ H9 s69 hA9 hT (show (r8 - 1).natAbs ≤ 10000 by omega)
        walk_at "rd"
        refine ⟨L, _, _, rfl, rfl, s69 _ _ nLs.symm hL6, szl (by omega), ?_⟩
        exact ⟨_, _, us', ms', rfl, m1, m2, m3, m4, m5, m6, m7⟩
      · walk_at "rd"
        have hG7 := s7 _ _ nGs.symm hG6
        refine ⟨G, _, rfl, .inl (sq hG7), ?_⟩
        refine draw_of (lim := ((gs.length : Nat) : Int)) hA7 ⟨by omega, by omega⟩ fun r8 H8 h80 h81 s8 hA8 => ?_
        obtain ⟨m, o, rfl, hm, oko⟩ := oths h80 (by omega)
        refine ⟨_, _, _, _, rfl, rfl, sq (s8 _ _ nGs.symm hG7), atI_nat hm, ?_⟩
        have hL8 := s8 _ _ nLs.symm hL7
        walk_at "rd"
        refine ⟨.inl ⟨rfl, _, sq hL8⟩, ?_⟩
        walk_at "rd"
        refine draw_of (lim := 6) hA8 (by decide) fun r9 H9 h90 h91 s9 hA9 => ?_
        walk_at "rd"
        refine draw_of (lim := 6) hA9 (by decide) fun r10 H10 ha0 ha1 s10 hA10 => ?_
        walk_at "rd"
        refine ⟨sz (by show 4 ≤ 100000; decide), fun T nT => ?_⟩
        have sT := same_new nT (o := .tup [.str (Str.ofString "cut"), .int (r9 - 1), .int (r10 - 1), .str o])
        have hT : Dp K (upd H10 T (.tup [.str (Str.ofString "cut"), .int (r9 - 1), .int (r10 - 1), .str o])) (.ref T) (lnD (.cut (r9 - 1) (r10 - 1) o)) := dp_cut (sqt upd_same)
        have hA11 := src_same hA10 sT
        have s69 := s7.trans (s8.trans (s9.trans (s10.trans (Bx.Same.but sT))))
        generalize upd H10 T (.tup [.str (Str.ofString "cut"), .int (r9 - 1), .int (r10 - 1), .str o]) = H11 at sT hT hA11 s69 ⊢
        obtain ⟨us', ms', m1, m2, m3, m4, m5, m6, m7⟩ := done T _ H11 s69 hA11 hT ⟨by omega, by omega, oko⟩
        walk_at "rd"
        refine ⟨L, _, _, rfl, rfl, s69 _ _ nLs.symm hL6, szl (by omega), ?_⟩
        exact ⟨_, _, us', ms', rfl, m1, m2, m3, m4, m5, m6, m7⟩
    · rintro σ H6 ⟨o4, o5, us, ms, rfl, s6, hA6, hG6, hL6, hus, okm, lm⟩
      walk_at "rd"
      refine ⟨L, _, rfl, .inl ⟨sq hL6, fun t nt => ?_⟩⟩
      have st := same_new nt (o := .tup us)
      exact q t us ms _ (s6.trans (Bx.Same.but st)) (src_same hA6 st) (sqt upd_same) (dpAll_same st hus) okm (by omega)
@[irreducible] def spJdg (K : PySem.W.Frag) (C : Addr) : Sp := fun vs H Q _ => ∃ (a dx T na ca p t : Addr) (fs : List (Str × V)) (xs zs : List V) (ns : List Str) (cs : List Cl) (c : Cl) (lns : List Ln), vs = [.ref a, .ref T, .ref p, .ref t] ∧ H a = some (.ins C dx fs) ∧ fs.lookup ("accepts" : Str) = none ∧ Th K H T na ca xs ns cs ∧ (∀ d ∈ cs, Vc ns d) ∧ (∀ z ∈ ns, Tx 17 z) ∧ ns.length ≤ 20 ∧ cs.length ≤ 1000 ∧ Dp K H (.ref p) (clD c) ∧ Vc ns c ∧ SqT K H t zs ∧ DpAll K H zs (lns.map lnD) ∧ (∀ x ∈ lns, OkB 10000 x) ∧ lns.length ≤ 1000 ∧ ∀ H', Same H H' → Q (.bl true) H'
theorem ok_judged {C : Addr} {f : Addr} {fd : FuncData} (F : Fun K "_law_judged" "_law_judged" s__law_judged f fd) (m_isinstance : mg "isinstance" = none) (m_bool : mg "bool" = none) (M_accepts : MthC P w K mg base C "accepts" 4 ["self", "theory", "constraint", "certificate"] (spAcc K)) (C__law_bits_show : Cal P w K mg base "_law_bits_show" 2 ["_law_theory_here", "_law_constraint", "_law_certificate"] (spShow K)) : FnOk P w K mg base CX0 5 f fd ["_law_kind", "_law_theory_here", "_law_question", "_law_certificate"] (spJdg K C) := by
  refine F.ok sc__law_judged (fun vs H Q E h => ?_) (fun cdv A outer s H vs Q E hr h => ?_)
  · unfold spJdg at h
    obtain ⟨a, dx, T, na, ca, p, t, fs, xs, zs, ns, cs, c, lns, rfl, _⟩ := h
    rfl
  · unfold spJdg at h
    obtain ⟨a, dx, T, na, ca, p, t, fs, xs, zs, ns, cs, c, lns, rfl, hins, hno, th, vcs, tx, nl, lc, hp, vc, ht, dz, okb, ll, q⟩ := h
    obtain ⟨okc, lcc⟩ := vc_ok tx nl vc
    have okl : ∀ x ∈ lns, OkLn x := fun x hx => (okb x hx).ok
    refine ⟨_, (pss_cons (ps_set (i := 4) sc__law_judged.nd rfl (Or.inl rfl) (pe_mth M_accepts (hr.mono (by decide)) (pv 0) (pa_cons (pv 1) (pa_cons (pv 2) (pa_cons (pv 3) pa_nil)))))
    (pss_one (ps_ret (pe_and (pe_callB (id := "isinstance") call_isi (by rfl) m_isinstance (by decide +kernel) (pa_cons (pv 4) (pa_cons (pe_bltn (v := .ty "bool") (by rfl) m_bool (by decide +kernel) rfl) pa_nil))) (pe_one (pe_cmpR op_eq (pv 4) (pe_cal C__law_bits_show (hr.mono (by decide)) (pa_cons (pv 1) (pa_cons (pv 2) (pa_cons (pv 3) pa_nil)))) (nomark _))))))), ?_⟩
    walk_at "rd"
    refine ⟨a, dx, fs, rfl, hins, hno, ?_⟩
    walk_at "rd"
    show spAcc K _ _ _ _
    unfold spAcc
    refine ⟨a, T, na, ca, p, t, xs, zs, ns, cs, c, lns, rfl, th, vcs, tx, nl, lc, hp, okc, ht, dz, okl, ll, fun r H1 s1 run => ?_⟩
    change tSeq _ _ _ _ _
    have q1 : ∀ H', Same H1 H' → Q (.bl true) H' := fun H' s => q H' (s1.trans s)
    walk_at "rd"
    refine ⟨_, _, _, _, true, rfl, .ty "bool", .base (.bl _), kit_ty (by decide +kernel), ?_⟩
    walk_at "rd"
    show spShow K _ _ _ _
    unfold spShow
    refine ⟨T, na, ca, p, t, xs, zs, ns, cs, c, lns, rfl, th.same s1, vcs, tx, nl, lc, dp_same s1 hp, okc, by omega, Bx.Same.tup s1 ht, dpAll_same s1 dz, okl, ll, fun r2 H2 s2 run2 => ?_⟩
    have e := run_one run run2
    subst e
    walk_at "rd"
    have ev : decide (V.bl (verdict c r) = V.bl (verdict c r)) = true := decide_eq_true rfl
    have := q1 H2 s2
    rw [← ev] at this
    exact this
end
end K12
namespace K12
local macro_rules | `(tactic| walk_at "rd") => `(tactic| repeat (first | refine ⟨rfl, ?_⟩ | refine ⟨_, rfl, ?_⟩ | refine ⟨_, _, rfl, rfl, ?_⟩ | refine ⟨⟨_, rfl⟩, ?_⟩))
open PySem PySem.Spec PyProof.Rows L2 Bx TL Dx Zx Ow Sup NdefX Px
/-! ### what is derived holds -/
structure Full (ns : List Str) (r : As) : Prop where
  nd : (r.map (·.1)).Nodup
  mem : ∀ z, z ∈ r.map (·.1) ↔ z ∈ ns
  bit : ∀ p ∈ r, p.2 = 0 ∨ p.2 = 1
theorem zip_fst {ms : List Str} {vs : List Int} (h : vs.length = ms.length) : (ms.zip vs).map (·.1) = ms := List.map_fst_zip (by omega)
theorem full_of {ns : List Str} {a : Cl} {vs : List Int} (va : Vc ns a) (nd : ns.Nodup) (hl : vs.length = (und ns a).length) (hb : Bits01 vs) : Full ns (neg a ++ (und ns a).zip vs) := by
  refine ⟨?_, fun z => ?_, fun p hp => ?_⟩
  · rw [List.map_append, zip_fst hl]
    exact neg_nodup va nd
  · rw [List.map_append, zip_fst hl, List.mem_append, neg_fst, und_mem]
    constructor
    · rintro (h | h)
      · obtain ⟨x, hx, rfl⟩ := List.mem_map.mp h
        exact (va.2 x hx).1
      · exact h.1
    · intro h
      by_cases m : z ∈ a.map (·.1)
      · exact .inl m
      · exact .inr ⟨h, m⟩
  · rcases List.mem_append.mp hp with h | h
    · unfold neg at h
      obtain ⟨x, hx, rfl⟩ := List.mem_map.mp h
      show 1 - x.2 = 0 ∨ 1 - x.2 = 1
      have := (va.2 x hx).2
      omega
    · exact hb p.2 (List.of_mem_zip (a := p.1) (b := p.2) h).2
theorem lk_some {r : As} {z : Str} (h : z ∈ r.map (·.1)) : ∃ k, lk r z = some k := by
  obtain ⟨p, hp, e⟩ := List.mem_map.mp h
  cases hl : lk r z with
  | some k => exact ⟨k, rfl⟩
  | none =>
    unfold lk at hl
    cases hf : r.find? fun p => decide (p.1 = z) with
    | some q =>
      rw [hf] at hl
      cases hl
    | none =>
      have := List.find?_eq_none.mp hf p hp
      simp [e] at this
theorem fl_neg {ns : List Str} {a : Cl} (va : Vc ns a) : fl (neg a) a = true := fl_iff.mpr fun x hx => lk_in (by rw [neg_fst]; exact vc_nodup va) (List.mem_map.mpr ⟨x, hx, rfl⟩)
theorem clAt_at {bs : List Cl} {i : Int} {c : Cl} (h : clAt bs i = some c) : ∃ k : Nat, i = (k : Int) ∧ bs[k]? = some c := by
  unfold clAt at h
  split at h
  · rename_i h0
    exact ⟨i.toNat, by omega, h⟩
  · cases h
theorem fl_in {a b : Cl} (h : fl (neg a) b = true) {x : Lit} (hx : x ∈ b) : x ∈ a := by
  have z := lk_mem (fl_iff.mp h x hx)
  unfold neg at z
  obtain ⟨y, hy, e⟩ := List.mem_map.mp z
  have e1 : y.1 = x.1 := congrArg (·.1) e
  have e2 : 1 - y.2 = 1 - x.2 := congrArg (·.2) e
  have e3 : y = x := Prod.ext e1 (by omega)
  rw [← e3]
  exact hy
theorem bare_new {H : Hp} {C k dk : Addr} (nk : H k = none) (nd : H dk = none) (ne : dk ≠ k) : Same H (upd (upd H dk (.own k)) k (.ins C dk [])) ∧ (upd (upd H dk (.own k)) k (.ins C dk [])) k = some (.ins C dk []) :=
  ⟨Same.trans (same_new nd) (same_new (by rw [upd_ne (Ne.symm ne)]; exact nk)), upd_same⟩
theorem sol_excl {cs : List Cl} {l : As} {ms : List Str} {r : As} : SolR cs l ms (some r) → SolR cs l ms none → False
  | ⟨vs, h1, h2, h3, h4⟩, h => by
    obtain ⟨c, hc, f⟩ := h vs h1 h2
    rw [← h3, h4 c hc] at f
    cases f
theorem dv_okb {ns : List Str} {cs bs : List Cl} {lns : List Ln} (dv : Dv cs lns bs) (vc : ∀ c ∈ cs, Vc ns c) (tx : ∀ z ∈ ns, Tx 17 z) (l1 : cs.length ≤ 1000) (l2 : lns.length ≤ 1000) : ∀ x ∈ lns, OkB 1000 x := by
  intro x hx
  obtain ⟨i, hi, e⟩ := List.getElem_of_mem hx
  obtain ⟨c, _, der⟩ := dv.2 i x (by rw [List.getElem?_eq_getElem hi, e])
  have hb := dv.1
  cases x with
  | giv j =>
    obtain ⟨k, rfl, hk⟩ := clAt_at (show clAt cs j = some c from (show some c = clAt cs j from der).symm)
    obtain ⟨hkl, _⟩ := List.getElem?_eq_some_iff.mp hk
    show (k : Int).natAbs ≤ 1000
    omega
  | cut j k n =>
    have h' : (match clAt (bs.take i) j, clAt (bs.take i) k with | some c1, some d => if (n, (1 : Int)) ∈ c1 ∧ (n, (0 : Int)) ∈ d then IsRes c1 d n (some c) else some c = none | _, _ => some c = none) := der
    cases h1 : clAt (bs.take i) j with
    | none =>
      rw [h1] at h'
      cases h'
    | some c1 =>
      cases h2 : clAt (bs.take i) k with
      | none =>
        rw [h1, h2] at h'
        cases h'
      | some c2 =>
        rw [h1, h2] at h'
        have h3 : if (n, (1 : Int)) ∈ c1 ∧ (n, (0 : Int)) ∈ c2 then IsRes c1 c2 n (some c) else some c = none := h'
        by_cases m : (n, (1 : Int)) ∈ c1 ∧ (n, (0 : Int)) ∈ c2
        · obtain ⟨a, rfl, ha⟩ := clAt_at h1
          obtain ⟨b, rfl, hb2⟩ := clAt_at h2
          obtain ⟨la, _⟩ := List.getElem?_eq_some_iff.mp ha
          obtain ⟨lb, _⟩ := List.getElem?_eq_some_iff.mp hb2
          rw [List.length_take] at la lb
          have v1 : Vc ns c1 := by
            rw [List.getElem?_take_of_lt (by omega)] at ha
            exact dv_vc vc dv a c1 ha
          exact ⟨by omega, by omega, (tx n (v1.2 _ m.1).1).ok⟩
        · rw [if_neg m] at h3
          cases h3
theorem der_cut {cs bs : List Cl} {j k : Int} {n : Str} {c : Cl} (h : Der cs bs (.cut j k n) (some c)) : ∃ (a b : Nat) (c1 c2 : Cl), j = (a : Int) ∧ k = (b : Int) ∧ bs[a]? = some c1 ∧ bs[b]? = some c2 ∧ (n, (1 : Int)) ∈ c1 ∧ (n, (0 : Int)) ∈ c2 ∧ IsRes c1 c2 n (some c) := by
  have h' : (match clAt bs j, clAt bs k with | some c1, some d => if (n, (1 : Int)) ∈ c1 ∧ (n, (0 : Int)) ∈ d then IsRes c1 d n (some c) else some c = none | _, _ => some c = none) := h
  cases h1 : clAt bs j with
  | none =>
    rw [h1] at h'
    cases h'
  | some c1 =>
    cases h2 : clAt bs k with
    | none =>
      rw [h1, h2] at h'
      cases h'
    | some c2 =>
      rw [h1, h2] at h'
      have h3 : if (n, (1 : Int)) ∈ c1 ∧ (n, (0 : Int)) ∈ c2 then IsRes c1 c2 n (some c) else some c = none := h'
      by_cases m : (n, (1 : Int)) ∈ c1 ∧ (n, (0 : Int)) ∈ c2
      · rw [if_pos m] at h3
        obtain ⟨a, rfl, ha⟩ := clAt_at h1
        obtain ⟨b, rfl, hb⟩ := clAt_at h2
        exact ⟨a, b, c1, c2, rfl, rfl, ha, hb, m.1, m.2, h3⟩
      · rw [if_neg m] at h3
        cases h3
theorem full_lk {ns : List Str} {r : As} (f : Full ns r) {n : Str} (h : n ∈ ns) : lk r n = some 0 ∨ lk r n = some 1 := by
  obtain ⟨k, hk⟩ := lk_some ((f.mem n).mpr h)
  rcases f.bit _ (lk_mem hk) with e | e
  · have e2 : k = 0 := e
    exact .inl (e2 ▸ hk)
  · have e2 : k = 1 := e
    exact .inr (e2 ▸ hk)
/-- a derived clause that fails has a given one that fails -/
theorem dv_sound {ns : List Str} {cs bs : List Cl} {lns : List Ln} {r : As} (dv : Dv cs lns bs) (vcs : ∀ c ∈ cs, Vc ns c) (f : Full ns r) : ∀ (i : Nat) (b : Cl), bs[i]? = some b → fl r b = true → ∃ c ∈ cs, fl r c = true := by
  intro i
  induction i using Nat.strongRecOn with
  | _ i ih =>
    intro b hb fb
    obtain ⟨hi, _⟩ := List.getElem?_eq_some_iff.mp hb
    have hl := dv.1
    have hx := List.getElem?_eq_getElem (show i < lns.length by omega)
    obtain ⟨b2, hb2, der⟩ := dv.2 i _ hx
    rw [hb] at hb2
    cases hb2
    generalize lns[i]'(by omega) = x at hx der
    cases x with
    | giv j => exact ⟨b, clAt_mem (show clAt cs j = some b from (show some b = clAt cs j from der).symm), fb⟩
    | cut j k n =>
      obtain ⟨a, e, c1, c2, rfl, rfl, h1, h2, m1, m2, res⟩ := der_cut der
      obtain ⟨la, _⟩ := List.getElem?_eq_some_iff.mp h1
      obtain ⟨le, _⟩ := List.getElem?_eq_some_iff.mp h2
      rw [List.length_take] at la le
      rw [List.getElem?_take_of_lt (by omega)] at h1 h2
      have nn : n ∈ ns := ((dv_vc vcs dv a c1 h1).2 _ m1).1
      have fb2 := fl_iff.mp fb
      rcases full_lk f nn with z | z
      · refine ih a (by omega) c1 h1 (fl_iff.mpr fun x hx => ?_)
        by_cases e1 : x = (n, 1)
        · rw [e1]
          exact z
        · exact fb2 x ((res.1 x).mpr (List.mem_append_left _ (List.mem_filter.mpr ⟨hx, decide_eq_true e1⟩)))
      · refine ih e (by omega) c2 h2 (fl_iff.mpr fun x hx => ?_)
        by_cases e1 : x = (n, 0)
        · rw [e1]
          exact z
        · exact fb2 x ((res.1 x).mpr (List.mem_append_right _ (List.mem_filter.mpr ⟨hx, decide_eq_true e1⟩)))
theorem sol_sound {ns : List Str} {cs bs : List Cl} {lns : List Ln} {a b : Cl} (dv : Dv cs lns bs) (vcs : ∀ c ∈ cs, Vc ns c) (va : Vc ns a) (nd : ns.Nodup) (gl : bs.getLast? = some b) (sub : ∀ l ∈ b, l ∈ a) : SolR cs (neg a) (und ns a) none := by
  intro vs hl hb
  rw [List.getLast?_eq_getElem?] at gl
  refine dv_sound dv vcs (full_of va nd hl hb) _ b gl (fl_iff.mpr fun x hx => ?_)
  exact fl_iff.mp (fl_app _ (fl_neg va)) x (sub x hx)
/-! ### certificates as data -/
def ceD (lns : List Ln) : PyData := .tuple (lns.map lnD)
theorem tup_ce (lns : List Ln) : tupD (ceD lns) = true := tup_lns lns
theorem tup_ces : ∀ cts : List (List Ln), tupAll (cts.map ceD) = true
  | [] => rfl
  | c :: cts => by
    show (tupD (ceD c) && tupAll (cts.map ceD)) = true
    rw [tup_ce, tup_ces cts]
    rfl
def OkCt (lns : List Ln) : Prop := (∀ x ∈ lns, OkB 10000 x) ∧ lns.length ≤ 1000
end K12
namespace K12
local macro_rules | `(tactic| walk_at "rd") => `(tactic| repeat (first | refine ⟨rfl, ?_⟩ | refine ⟨_, rfl, ?_⟩ | refine ⟨_, _, rfl, rfl, ?_⟩ | refine ⟨⟨_, rfl⟩, ?_⟩))
open PySem PySem.Spec PyProof.Rows L2 Bx TL Dx Zx Ow Sup NdefX Px
theorem st_any {t : TS} {D : Ends} {rest : TS} {σ : List (Option V)} {H : Hp} (R : List (Option V) → Hp → Prop) (h : ∀ D' : Ends, (∀ σ' H', R σ' H' → D'.nx σ' H') → t D' σ H) (k : ∀ σ' H', R σ' H' → rest D σ' H') : tSeq t rest D σ H :=
  h { D with nx := rest D } k
section
variable {P : Program} {w : World} {K : PySem.W.Frag} {mg : Str → Option Value} {base : Heap}
def spLaw (K : PySem.W.Frag) : Sp := fun vs H Q _ => ∃ (a : Addr) (ns : List Int), vs = [.ref a] ∧ SqL K H a (ns.map V.int) ∧ ns.length ≤ 63 ∧ ∀ H', Q (.bl true) H'
set_option maxHeartbeats 8000000 in
theorem ok_law {C : Addr} {f : Addr} {fd : FuncData} (F : Fun K "law" "law" s_law f fd) (m_len : mg "len" = none) (m_range : mg "range" = none) (m_int : mg "int" = none) (B_Bits : Mk0.Bare K mg "Bits" C)
    (M_certificate : MthC P w K mg base C "certificate" 9 ["self", "theory", "constraint"] (spCert K C)) (M_counterexample : MthC P w K mg base C "counterexample" 8 ["self", "theory", "constraint"] (spCE K))
    (C__law_source : Cal P w K mg base "_law_source" 1 ["_law_script", "_law_k"] (spSource K)) (C__law_theory : Cal P w K mg base "_law_theory" 3 ["_law_source_here"] (spTheory K)) (C__law_derived : Cal P w K mg base "_law_derived" 2 ["_law_source_here", "_law_theory_here"] (spLDer K)) (C__law_widened : Cal P w K mg base "_law_widened" 2 ["_law_source_here", "_law_names", "_law_clause_here"] (spWide K)) (C__law_narrowed : Cal P w K mg base "_law_narrowed" 2 ["_law_source_here", "_law_clause_here"] (spNarrow K))
    (C__law_is_certificate : Cal P w K mg base "_law_is_certificate" 3 ["_law_certificate"] (spIsCert K)) (C__law_bits_show : Cal P w K mg base "_law_bits_show" 2 ["_law_theory_here", "_law_constraint", "_law_certificate"] (spShow K)) (C__law_changed : Cal P w K mg base "_law_changed" 4 ["_law_source_here", "_law_names", "_law_certificate"] (spChg K)) (C__law_wild : Cal P w K mg base "_law_wild" 2 ["_law_source_here", "_law_names"] (spWild K)) (C__law_judged : Cal P w K mg base "_law_judged" 5 ["_law_kind", "_law_theory_here", "_law_question", "_law_certificate"] (spJdg K C)) :
    FnOk P w K mg base CX0 10 f fd ["_law_script"] (spLaw K) := by
  refine F.ok sc_law (fun vs H Q E h => ?_) (fun cdv A outer s H vs Q E hr h => ?_)
  · unfold spLaw at h
    obtain ⟨a, ns, rfl, _⟩ := h
    rfl
  · unfold spLaw at h
    obtain ⟨sa, sc, rfl, hs, hsl, q⟩ := h
    refine ⟨_, (pss_cons (ps_set (i := 1) sc_law.nd rfl (Or.inl rfl) (Mk0.pe_bare B_Bits))
    (pss_cons (ps_set (i := 2) sc_law.nd rfl (Or.inl rfl) (pe_cal C__law_theory (hr.mono (by decide)) (pa_cons (pe_cal C__law_source (hr.mono (by decide)) (pa_cons (pv 0) (pa_cons pe_int pa_nil))) pa_nil)))
    (pss_cons (ps_set (i := 3) sc_law.nd rfl (Or.inr rfl) (pe_ix ix_tup (pv 2) pe_int (fun _ _ => rfl)))
    (pss_cons (ps_set (i := 4) sc_law.nd rfl (Or.inr rfl) (pe_cal C__law_source (hr.mono (by decide)) (pa_cons (pv 0) (pa_cons pe_int pa_nil))))
    (pss_cons (ps_set (i := 5) sc_law.nd rfl (Or.inr rfl) (pe_cal C__law_derived (hr.mono (by decide)) (pa_cons (pv 4) (pa_cons (pv 2) pa_nil))))
    (pss_cons (ps_set (i := 6) sc_law.nd rfl (Or.inl rfl) (pe_cal C__law_widened (hr.mono (by decide)) (pa_cons (pv 4) (pa_cons (pv 3) (pa_cons (pe_tup pa_nil) pa_nil)))))
    (pss_cons (ps_if (pt_cmpR op_gt (pe_callB call_len_seq (by rfl) m_len PySem.boot_len (pa_cons (pe_ix ix_tup (pv 5) pe_int (fun _ _ => rfl)) pa_nil)) pe_int (nomark _))
      (pss_one (ps_set (i := 6) sc_law.nd rfl (Or.inl rfl) (pe_cal C__law_widened (hr.mono (by decide)) (pa_cons (pv 4) (pa_cons (pv 3) (pa_cons (pe_ix ix_list (pe_ix ix_tup (pv 5) pe_int (fun _ _ => rfl)) (pe_un un_neg pe_int) (fun _ _ => rfl)) pa_nil))))))
      pss_nil)
    (pss_cons (ps_set (i := 7) sc_law.nd rfl (Or.inl rfl) (pe_lst (pa_cons (pe_ix ix_tup (pv 5) pe_int (fun _ _ => rfl)) (pa_cons (pe_tup pa_nil) pa_nil))))
    (pss_cons (ps_if (pt_cmpR op_gt (pe_callB call_len_seq (by rfl) m_len PySem.boot_len (pa_cons (pe_ix ix_tup (pv 5) pe_int (fun _ _ => rfl)) pa_nil)) pe_int (nomark _))
      (pss_cons (ps_set (i := 10) sc_law.nd rfl (Or.inr rfl) (pe_mth M_certificate (hr.mono (by decide)) (pv 1) (pa_cons (pv 2) (pa_cons (pv 6) pa_nil))))
    (pss_cons (ps_if (PW.pt (pw_or (pt_not (pt_val (pe_cal C__law_is_certificate (hr.mono (by decide)) (pa_cons (pv 10) pa_nil)))) (pw_or1 (pt_not (pt_val (pe_cal C__law_bits_show (hr.mono (by decide)) (pa_cons (pv 2) (pa_cons (pv 6) (pa_cons (pv 10) pa_nil)))))))))
      (pss_one (ps_ret pe_bl))
      pss_nil)
    (pss_cons (ps_if (pt_cmpR op_notN (pe_mth M_counterexample (hr.mono (by decide)) (pv 1) (pa_cons (pv 2) (pa_cons (pv 6) pa_nil))) pe_non (nomark _))
      (pss_one (ps_ret pe_bl))
      pss_nil)
    (pss_cons (ps_expr (pe_bm PySem.F.plainAttrs_list PySem.F.slot_list_append PySem.F.type_list_append mt_append (pv 7) (pa_cons (pv 10) pa_nil)))
    (pss_cons (ps_set (i := 4) sc_law.nd rfl (Or.inr rfl) (pe_cal C__law_source (hr.mono (by decide)) (pa_cons (pv 0) (pa_cons pe_int pa_nil))))
    (pss_one (ps_expr (pe_bm PySem.F.plainAttrs_list PySem.F.slot_list_extend PySem.F.type_list_extend mt_extend (pv 7) (pa_cons (pe_lc (own := [("_law_k", 9)]) (tt := tYes) rfl sc_law.nd (pi_range1 (by rfl) m_range (pa_cons pe_int pa_nil)) (blkOk_by (N := n_law) (sc := defScope s_law) (by decide +kernel)) (fun _ _ _ _ _ => pg_name (i := 9) sc_law.nd rfl (Or.inl rfl)) (fun _ _ _ _ _ => pts_nil) (fun _ _ _ _ _ => (pe_cal C__law_changed (hr.mono (by decide)) (pa_cons (pv 4) (pa_cons (pv 3) (pa_cons (pv 10) pa_nil)))))) pa_nil)))))))))
      pss_nil)
    (pss_cons (ps_set (i := 4) sc_law.nd rfl (Or.inr rfl) (pe_cal C__law_source (hr.mono (by decide)) (pa_cons (pv 0) (pa_cons pe_int pa_nil))))
    (pss_cons (ps_expr (pe_bm PySem.F.plainAttrs_list PySem.F.slot_list_extend PySem.F.type_list_extend mt_extend (pv 7) (pa_cons (pe_lc (own := [("_law_k", 9)]) (tt := tYes) rfl sc_law.nd (pi_range1 (by rfl) m_range (pa_cons pe_int pa_nil)) (blkOk_by (N := n_law) (sc := defScope s_law) (by decide +kernel)) (fun _ _ _ _ _ => pg_name (i := 9) sc_law.nd rfl (Or.inl rfl)) (fun _ _ _ _ _ => pts_nil) (fun _ _ _ _ _ => (pe_cal C__law_changed (hr.mono (by decide)) (pa_cons (pv 4) (pa_cons (pv 3) (pa_cons (pe_ix (ix_tupK (K := K) rfl) (pv 5) pe_int (fun _ _ => rfl)) pa_nil)))))) pa_nil)))
    (pss_cons (ps_expr (pe_bm PySem.F.plainAttrs_list PySem.F.slot_list_extend PySem.F.type_list_extend mt_extend (pv 7) (pa_cons (pe_lc (own := [("_law_k", 9)]) (tt := tYes) rfl sc_law.nd (pi_range1 (by rfl) m_range (pa_cons pe_int pa_nil)) (blkOk_by (N := n_law) (sc := defScope s_law) (by decide +kernel)) (fun _ _ _ _ _ => pg_name (i := 9) sc_law.nd rfl (Or.inl rfl)) (fun _ _ _ _ _ => pts_nil) (fun _ _ _ _ _ => (pe_cal C__law_wild (hr.mono (by decide)) (pa_cons (pv 4) (pa_cons (pv 3) pa_nil))))) pa_nil)))
    (pss_cons (ps_set (i := 4) sc_law.nd rfl (Or.inr rfl) (pe_cal C__law_source (hr.mono (by decide)) (pa_cons (pv 0) (pa_cons pe_int pa_nil))))
    (pss_cons (ps_set (i := 8) sc_law.nd rfl (Or.inl rfl) (pe_lst (pa_cons (pv 6) (pa_cons (pe_cal C__law_narrowed (hr.mono (by decide)) (pa_cons (pv 4) (pa_cons (pv 6) pa_nil))) (pa_cons (pe_cal C__law_widened (hr.mono (by decide)) (pa_cons (pv 4) (pa_cons (pv 3) (pa_cons (pv 6) pa_nil)))) (pa_cons (pe_tup pa_nil) pa_nil))))))
    (pss_cons (ps_for PassesOwn.never rfl (pi_range1 (by rfl) m_range (pa_cons (pe_callB call_len_seq (by rfl) m_len PySem.boot_len (pa_cons (pv 7) pa_nil)) pa_nil)) (pg_name (i := 9) sc_law.nd rfl (Or.inl rfl))
      (pss_one (ps_for PassesOwn.never rfl (pi_list (pe_lst (pa_cons (pv 6) (pa_cons (pe_ix ix_list (pv 8) (pe_op op_add pe_int (pe_op op_mod (pe_callTy (T := "int") call_int1 (by rfl) m_int (by decide +kernel) (pa_cons (pv 9) pa_nil)) pe_int)) (fun _ _ => rfl)) pa_nil)))) (pg_name (i := 11) sc_law.nd rfl (Or.inl rfl))
      (pss_one (ps_if (pt_not (pt_val (pe_cal C__law_judged (hr.mono (by decide)) (pa_cons (pv 1) (pa_cons (pv 2) (pa_cons (pv 11) (pa_cons (pe_ix ix_list (pv 7) (pv 9) (fun _ _ => rfl)) pa_nil)))))))
      (pss_one (ps_ret pe_bl))
      pss_nil)))))
    (pss_one (ps_ret pe_bl))))))))))))))))), ?_⟩
    walk_at "rd"
    refine fun k dk nk nd0 ne => ?_
    obtain ⟨uk, hk⟩ := bare_new (C := C) nk nd0 ne
    generalize upd (upd H dk (.own k)) k (.ins C dk []) = H0 at uk hk ⊢
    have hs0 := Same.seq uk hs
    clear nk nd0 ne uk hs
    walk_at "rd"
    refine ⟨sa, sc, 0, rfl, hs0, by decide, fun s0 n0 c0 ns0 => ?_⟩
    have u0 := same_new ns0 (o := .lst [.int n0, .int c0])
    have hA0 : Src (upd H0 s0 (.lst [.int n0, .int c0])) s0 := ⟨n0, c0, upd_same⟩
    generalize upd H0 s0 (.lst [.int n0, .int c0]) = H1 at u0 hA0 ⊢
    walk_at "rd"
    show spTheory K _ _ _ _
    unfold spTheory
    refine ⟨s0, rfl, hA0, fun T na ca xs ns cs H2 b2 hA2 th asc tx nl lc vc => ?_⟩
    have u2 : Same H0 H2 := Bx.SameBut.same u0 ns0 b2
    have nd := asc_nodup asc
    have hk2 := u2 _ _ hk
    have hs2 := Same.seq u2 hs0
    clear u2 hk hs0 u0 hA0 b2 hA2
    walk_at "rd"
    refine ⟨_, _, _, _, rfl, rfl, th.t, atI_nat (j := 0) rfl, ?_⟩
    walk_at "rd"
    refine ⟨sa, sc, 1, rfl, hs2, by decide, fun s1 n1 c1 ns1 => ?_⟩
    have u3 := same_new ns1 (o := .lst [.int n1, .int c1])
    have hA3 : Src (upd H2 s1 (.lst [.int n1, .int c1])) s1 := ⟨n1, c1, upd_same⟩
    generalize upd H2 s1 (.lst [.int n1, .int c1]) = H3 at u3 hA3 ⊢
    walk_at "rd"
    show spLDer K _ _ _ _
    unfold spLDer
    refine ⟨s1, T, na, ca, xs, ns, cs, rfl, hA3, th.same u3, tx, nl, lc, vc, fun r t M zs us lns bs H4 b4 hA4 hr4 ht4 dz4 Ms1 hM4 hus4 dv lnl => ?_⟩
    have u24 : Same H2 H4 := Bx.SameBut.same u3 ns1 b4
    have th4 := th.same u24
    have ul : us.length = bs.length := by rw [da_len hus4, List.length_map]
    walk_at "rd"
    refine ⟨sz (by decide), fun p0 np0 => ?_⟩
    have s5 := same_new np0 (o := .tup ([] : List V))
    have hp0 : Dp K (upd H4 p0 (.tup [])) (.ref p0) (clD []) := .tup (sqt upd_same) .nil
    have hA5 := src_same hA4 s5
    generalize upd H4 p0 (.tup []) = H5 at s5 hp0 hA5 ⊢
    show spWide K _ _ _ _
    unfold spWide
    refine ⟨s1, na, p0, ns, [], rfl, hA5, (th4.same s5).n, asc, tx, by omega, hp0, vc_nil ns, fun v0 d0 H6 b6 hA6 dv0 vd0 _ => ?_⟩
    obtain ⟨q0, yq0, rfl, _⟩ := dp_tup dv0
    have b46 : SameBut s1 H4 H6 := (Bx.Same.but s5).trans b6
    dsimp only [gName]
    refine st_any (fun σ' H' => ∃ (p : Addr) (d : Cl), σ' = [some (.ref sa), some (.ref k), some (.ref T), some (.ref na), some (.ref s1), some (.ref r), some (.ref p), none, none, none, none, none] ∧ SameBut s1 H4 H' ∧ Dp K H' (.ref p) (clD d) ∧ Vc ns d ∧ ∀ b, bs.getLast? = some b → ∀ l ∈ b, l ∈ d) (fun D' hD' => ?_) ?_
    · have hr6 := sqt_but hA4 b46 hr4
      have hM6 := b46 _ _ Ms1 hM4
      have hus6 := da_tk (tk_but hA4 b46) _ _ (tup_cls bs) hus4
      walk_at "rd"
      refine ⟨_, _, _, _, rfl, rfl, hr6, atI_nat (j := 1) rfl, ?_⟩
      refine ⟨M, _, rfl, .inl (sq hM6), ?_⟩
      walk_at "rd"
      refine ite2 (fun h6 => ?_) (fun h6 => ?_)
      · have u0 : 0 < us.length := by
          have z : (0 : Int) < (us.length : Nat) := of_decide_eq_true h6
          omega
        have ev := List.getElem?_eq_getElem (show us.length - 1 < us.length by omega)
        obtain ⟨b, hb, db⟩ := da_atM hus6 ev
        generalize us[us.length - 1]'(by omega) = ub at ev db
        obtain ⟨pb, yb, rfl, _⟩ := dp_tup db
        walk_at "rd"
        refine ⟨_, _, _, _, rfl, rfl, hr6, atI_nat (j := 1) rfl, ?_⟩
        walk_at "rd"
        refine ⟨_, _, _, _, rfl, rfl, sq hM6, at_last ev u0, ?_⟩
        refine ⟨s1, na, pb, ns, b, rfl, hA6, sqt_but hA4 b46 th4.n, asc, tx, by omega, db, dv_vc vc dv _ b hb, fun v d H7 b7 hA7 dd vd sub => ?_⟩
        obtain ⟨p, yp, rfl, _⟩ := dp_tup dd
        refine hD' _ H7 ⟨p, d, rfl, b46.trans b7, dd, vd, fun b2 h2 => ?_⟩
        rw [List.getLast?_eq_getElem?, ← ul, hb] at h2
        cases h2
        exact sub
      · refine hD' _ H6 ⟨q0, d0, rfl, b46, dv0, vd0, fun b2 h2 => ?_⟩
        have z : ¬ (0 : Int) < (us.length : Nat) := fun e => h6 (decide_eq_true e)
        have e0 : bs = [] := List.length_eq_zero_iff.mp (by omega)
        rw [e0] at h2
        cases h2
    rintro σ' H6 ⟨p, d, rfl, b6, dp6, vd, sub⟩
    have u26 : Same H2 H6 := Bx.SameBut.same u3 ns1 (b4.trans b6)
    have hr6 := sqt_but hA4 b6 hr4
    have ht6 := sqt_but hA4 b6 ht4
    have dz6 := da_tk (tk_but hA4 b6) _ _ (tup_lns lns) dz4
    have hM6 := b6 _ _ Ms1 hM4
    have hs6 := Same.seq u26 hs2
    have hk6 := u26 _ _ hk2
    have th6 := th.same u26
    have okb := dv_okb dv vc tx (by omega) (by omega)
    have okd := (vc_ok tx (show ns.length ≤ 20 by omega) vd)
    clear b46 hA6 b6 b4 hA4 hr4 ht4 dz4 hM4 hus4 th4 hA3 u3 u26 hs2 hk2 th s5 hp0 hA5 u24
    walk_at "rd"
    refine ⟨_, _, _, _, rfl, rfl, hr6, atI_nat (j := 0) rfl, ?_⟩
    refine ⟨sz (by decide), fun e0 ne0 => ?_⟩
    have s7 := same_new ne0 (o := .tup ([] : List V))
    have he0 : Dp K (upd H6 e0 (.tup [])) (.ref e0) (ceD []) := .tup (sqt upd_same) .nil
    generalize upd H6 e0 (.tup []) = B at s7 he0 ⊢
    have rB := Bx.Same.tup s7 hr6
    have ht_t := Bx.Same.tup s7 ht6
    have dz_t := dpAll_same s7 dz6
    have MB := s7 _ _ hM6
    have sB := Same.seq s7 hs6
    have kB := s7 _ _ hk6
    have thB := th6.same s7
    have dpB := dp_same s7 dp6
    clear hr6 ht6 dz6 hM6 hs6 hk6 th6 dp6 s7
    refine ⟨sz (by show 2 ≤ 100000; decide), fun L nL => ?_⟩
    have s8 := same_new nL (o := .lst [.ref t, .ref e0])
    have hL8 := upd_same (H := B) (a := L) (o := .lst [.ref t, .ref e0])
    have d8 : DpAll K (upd B L (.lst [.ref t, .ref e0])) [.ref t, .ref e0] ([lns, []].map ceD) := .cons (.tup (Bx.Same.tup s8 ht_t) (dpAll_same s8 dz_t)) (da_one (dp_same s8 he0))
    have ok8 : ∀ c ∈ [lns, []], OkCt c := fun c hc => by
      rcases List.mem_cons.mp hc with h | h
      · rw [h]
        exact ⟨fun x hx => (okb x hx).mono (by decide), by omega⟩
      · rw [List.mem_singleton.mp h]
        exact ⟨fun x hx => (by cases hx), Nat.zero_le _⟩
    have l8 : [lns, []].length = 2 := rfl
    generalize [lns, []] = ct0 at d8 ok8 l8
    generalize upd B L (.lst [.ref t, .ref e0]) = H8 at s8 hL8 d8 ⊢
    generalize [V.ref t, .ref e0] = us0 at hL8 d8
    dsimp only [gName]
    refine st_any (fun σ' H' => ∃ (s4 : Addr) (o10 : Option V) (us : List V) (cts : List (List Ln)), σ' = [some (.ref sa), some (.ref k), some (.ref T), some (.ref na), some (.ref s4), some (.ref r), some (.ref p), some (.ref L), none, none, o10, none] ∧ Same B H' ∧ H' L = some (.lst us) ∧ DpAll K H' us (cts.map ceD) ∧ (∀ c ∈ cts, OkCt c) ∧ cts.length ≤ 50) (fun D' hD' => ?_) ?_
    · have M8 := s8 _ _ MB
      have r8 := Bx.Same.tup s8 rB
      walk_at "rd"
      refine ⟨_, _, _, _, rfl, rfl, r8, atI_nat (j := 1) rfl, ?_⟩
      refine ⟨M, _, rfl, .inl (sq M8), ?_⟩
      walk_at "rd"
      refine ite2 (fun h6 => ?_) (fun _ => ?_)
      case refine_2 =>
        walk_at "rd"
        exact hD' _ H8 ⟨s1, none, us0, ct0, rfl, s8, hL8, d8, ok8, by omega⟩
      have u0 : 0 < us.length := by
        have z : (0 : Int) < (us.length : Nat) := of_decide_eq_true h6
        omega
      have gl : ∃ b, bs.getLast? = some b := by
        cases hg : bs.getLast? with
        | some b => exact ⟨b, rfl⟩
        | none =>
          rw [List.getLast?_eq_none_iff.mp hg] at ul
          exact absurd ul (by rw [List.length_nil]; omega)
      obtain ⟨bl, gl⟩ := gl
      have hsol := sol_sound dv vc vd nd gl (sub bl gl)
      have th8 := thB.same s8
      walk_at "rd"
      refine ⟨k, dk, [], rfl, s8 _ _ kB, rfl, ?_⟩
      walk_at "rd"
      show spCert K C _ _ _ _
      unfold spCert
      refine ⟨k, dk, T, na, ca, p, [], xs, ns, cs, d, rfl, s8 _ _ kB, rfl, th8, vc, nd, tx, nl, by omega, dp_same s8 dpB, vd, fun r' H' _ sol => (sol_excl sol hsol).elim, fun tc zc lnc bc b H9 s9 _ htc dzc dvc glc flb lcl => ?_⟩
      have okbc := dv_okb dvc vc tx (by omega) (by omega)
      have okc : ∀ x ∈ lnc, OkLn x := fun x hx => ((okbc x hx).mono (by decide)).ok
      have lb1 : 1 ≤ lnc.length := by
        rw [dvc.1]
        cases bc with
        | nil => cases glc
        | cons _ _ => exact Nat.succ_pos _
      have u9 := s8.trans s9
      walk_at "rd"
      show spIsCert K _ _ _ _
      unfold spIsCert
      refine ⟨tc, zc, lnc, rfl, htc, dzc, lb1, by omega, fun H10 s10 => ?_⟩
      have u10 := u9.trans s10
      walk_at "rd"
      show spShow K _ _ _ _
      unfold spShow
      refine ⟨T, na, ca, p, tc, xs, zc, ns, cs, d, lnc, rfl, thB.same u10, vc, tx, by omega, by omega, dp_same u10 dpB, okd.1, by omega, Bx.Same.tup s10 htc, dpAll_same s10 dzc, okc, by omega, fun rr H11 s11 run => ?_⟩
      have run2 := dv_run dvc lnc.length (Nat.le_refl _)
      rw [Nat.sub_self] at run2
      have er := run_one run run2
      subst er
      have yes : verdict d (some bc) = true := by
        unfold verdict
        simp only [glc]
        exact List.all_eq_true.mpr fun x hx => decide_eq_true (fl_in flb hx)
      rw [yes]
      have u11 := u10.trans s11
      walk_at "rd"
      refine ⟨k, dk, [], rfl, u11 _ _ kB, rfl, ?_⟩
      walk_at "rd"
      show spCE K _ _ _ _
      unfold spCE
      refine ⟨k, T, na, ca, p, xs, ns, cs, d, rfl, thB.same u11, vc, nd, tx, nl, by omega, dp_same u11 dpB, vd, fun v o H12 s12 sol hv => ?_⟩
      cases o with
      | some r' => exact (sol_excl sol hsol).elim
      | none =>
      have ev : v = .non := hv
      subst ev
      have u12 := u11.trans s12
      have s912 := s10.trans (s11.trans s12)
      have hL12 := (s9.trans s912) _ _ hL8
      walk_at "rd"
      refine ⟨.inl ⟨rfl, _, sq hL12⟩, ?_⟩
      walk_at "rd"
      have d12 := dpAll_same (s9.trans s912) d8
      have vl0 : us0.length = ct0.length := by rw [da_len d8, List.length_map]
      refine ⟨L, _, _, rfl, rfl, hL12, szl (by omega), ?_⟩
      have tk13 := tk_lst (K := K) (o := .lst (us0 ++ [.ref tc])) hL12
      have d13 : DpAll K (upd H12 L (.lst (us0 ++ [.ref tc]))) (us0 ++ [.ref tc]) ((ct0 ++ [lnc]).map ceD) := by
        rw [List.map_append]
        exact da_app (da_tk tk13 _ _ (tup_ces _) d12) (da_one (dp_tk tk13 _ _ (tup_ce lnc) (.tup (Bx.Same.tup s912 htc) (dpAll_same s912 dzc))))
      have htc13 := tk13 _ _ (Bx.Same.tup s912 htc)
      have dzc13 := da_tk tk13 _ _ (tup_lns lnc) (dpAll_same s912 dzc)
      have u13 : Same B (upd H12 L (.lst (us0 ++ [.ref tc]))) := same_at nL u12
      have hL13 := upd_same (H := H12) (a := L) (o := .lst (us0 ++ [.ref tc]))
      have ok13 : ∀ c ∈ ct0 ++ [lnc], OkCt c := fun c hc => (List.mem_append.mp hc).elim (ok8 c) fun h => by
        rw [List.mem_singleton.mp h]
        exact ⟨fun x hx => (okbc x hx).mono (by decide), by omega⟩
      have l13 : (ct0 ++ [lnc]).length = 3 := by rw [List.length_append, l8]; rfl
      generalize upd H12 L (.lst (us0 ++ [.ref tc])) = H13 at d13 htc13 dzc13 u13 hL13 ⊢
      generalize us0 ++ [.ref tc] = us1 at d13 hL13
      generalize ct0 ++ [lnc] = ct1 at d13 ok13 l13
      walk_at "rd"
      refine ⟨sa, sc, 2, rfl, Same.seq u13 sB, by decide, fun s2 n2 c2 ns2 => ?_⟩
      have v2 := same_new ns2 (o := .lst [.int n2, .int c2])
      have hA2 : Src (upd H13 s2 (.lst [.int n2, .int c2])) s2 := ⟨n2, c2, upd_same⟩
      have nB2 : B s2 = none := u13.free ns2
      have Ls2 : L ≠ s2 := ne_of_none hL13 ns2
      have w2 := u13.trans v2
      generalize upd H13 s2 (.lst [.int n2, .int c2]) = H14 at v2 hA2 w2 ⊢
      have htc14 := Bx.Same.tup v2 htc13
      have dzc14 := dpAll_same v2 dzc13
      have hL14 := v2 _ _ hL13
      have d14 := dpAll_same v2 d13
      walk_at "rd"
      refine ⟨.inl ⟨rfl, _, sq hL14⟩, ?_⟩
      walk_at "rd"
      refine ⟨by decide, by decide, fun D5 nD5 => ?_⟩
      have nDs5 := src_ne hA2 nD5
      refine lc_it walk_range (fun i H' => SameBut s2 H14 H' ∧ Src H' s2 ∧ ∃ (ws : List V) (cw : List (List Ln)), H' D5 = some (.lst ws) ∧ DpAll K H' ws (cw.map ceD) ∧ (∀ c ∈ cw, OkCt c) ∧ cw.length = i) ⟨Bx.Same.but (same_new nD5), src_upd hA2 nDs5, [], [], upd_same, .nil, (fun c hc => by cases hc), rfl⟩ (fun _ _ _ _ => trivial) ?_ ?_
      · rintro i v Hxa Hx hi ⟨sx, hAx, ws, cw, hW, dw, okw, lw⟩ ⟨rfl, rfl⟩
        refine ⟨rfl, ?_⟩
        have hi2 : i < 16 := hi
        have ux : Same B Hx := Bx.SameBut.same w2 nB2 sx
        walk_at "rd"
        show spChg K _ _ _ _
        unfold spChg
        refine ⟨s2, na, tc, zc, ns, lnc, rfl, hAx, (thB.same ux).n, tx, by omega, sqt_but hA2 sx htc14, da_tk (tk_but hA2 sx) _ _ (tup_lns lnc) dzc14, okbc, by omega, fun G us' ms Hy sy hAy hGy dGy okGy lGy => ?_⟩
        have sxy := sx.trans sy
        have hWy := sy _ _ nDs5.symm hW
        have wl : ws.length = cw.length := by rw [da_len dw, List.length_map]
        have tk := tk_lst (K := K) (o := .lst (ws ++ [.ref G])) hWy
        refine ⟨ws, hWy, szl (by omega), but_at nD5 sxy, src_upd hAy nDs5, ws ++ [.ref G], cw ++ [ms], upd_same, ?_, fun c hc => ?_, by rw [List.length_append]; show cw.length + 1 = i + 1; omega⟩
        · rw [List.map_append]
          exact da_app (da_tk tk _ _ (tup_ces cw) (da_tk (tk_but hAx sy) _ _ (tup_ces cw) dw)) (da_one (dp_tk tk _ _ (tup_ce ms) (.tup hGy dGy)))
        · rcases List.mem_append.mp hc with h | h
          · exact okw c h
          · rw [List.mem_singleton.mp h]
            exact ⟨okGy, lGy⟩
      rintro H15a ⟨sx5, hAx5, ws5, cw5, hW5, dw5, okw5, lw5⟩
      have hL5 := sx5 _ _ Ls2 hL14
      have wl5 : ws5.length = cw5.length := by rw [da_len dw5, List.length_map]
      have vl5 : (us1).length = (ct1).length := by rw [da_len d14, List.length_map]
      have lw5' : cw5.length = 16 := lw5
      refine ⟨L, D5, _, _, rfl, rfl, hL5, hW5, sz (by omega), ?_⟩
      have tk5 := tk_lst (K := K) (o := .lst (us1 ++ ws5)) hL5
      have dE5 : DpAll K (upd H15a L (.lst (us1 ++ ws5))) (us1 ++ ws5) ((ct1 ++ cw5).map ceD) := by
        rw [List.map_append]
        exact da_app (da_tk tk5 _ _ (tup_ces _) (da_tk (tk_but hA2 sx5) _ _ (tup_ces _) d14)) (da_tk tk5 _ _ (tup_ces _) dw5)
      have okE5 : ∀ c ∈ ct1 ++ cw5, OkCt c := fun c hc => (List.mem_append.mp hc).elim (ok13 c) (okw5 c)
      have lE5 : (ct1 ++ cw5).length = (ct1).length + 16 := by rw [List.length_append, lw5']
      have hE5 := upd_same (H := H15a) (a := L) (o := .lst (us1 ++ ws5))
      have uB5 : Same B H15a := Bx.SameBut.same w2 nB2 sx5
      have uE5 : Same B (upd H15a L (.lst (us1 ++ ws5))) := same_at nL uB5
      have hAE5 : Src (upd H15a L (.lst (us1 ++ ws5))) s2 := src_upd hAx5 (Ne.symm Ls2)
      generalize upd H15a L (.lst (us1 ++ ws5)) = H15 at dE5 hE5 uE5 hAE5 ⊢
      generalize us1 ++ ws5 = us5 at dE5 hE5 ⊢
      generalize ct1 ++ cw5 = cts5 at dE5 okE5 lE5
      exact hD' _ H15 ⟨s2, _, us5, cts5, rfl, uE5, hE5, dE5, okE5, by omega⟩
    rintro σ' H9 ⟨s9, o10, us9, cts9, rfl, u9, hL9, d9, ok9, l9⟩
    walk_at "rd"
    refine ⟨sa, sc, 3, rfl, Same.seq u9 sB, by decide, fun s3 n3 c3 ns3 => ?_⟩
    have v3 := same_new ns3 (o := .lst [.int n3, .int c3])
    have hA3 : Src (upd H9 s3 (.lst [.int n3, .int c3])) s3 := ⟨n3, c3, upd_same⟩
    have nB3 : B s3 = none := u9.free ns3
    have Ls3 : L ≠ s3 := ne_of_none hL9 ns3
    have w3 := u9.trans v3
    generalize upd H9 s3 (.lst [.int n3, .int c3]) = H10 at v3 hA3 w3 ⊢
    have hL10 := v3 _ _ hL9
    have d10 := dpAll_same v3 d9
    walk_at "rd"
    refine ⟨.inl ⟨rfl, _, sq hL10⟩, ?_⟩
    walk_at "rd"
    refine ⟨by decide, by decide, fun D6 nD6 => ?_⟩
    have nDs6 := src_ne hA3 nD6
    refine lc_it walk_range (fun i H' => SameBut s3 H10 H' ∧ Src H' s3 ∧ ∃ (ws : List V) (cw : List (List Ln)), H' D6 = some (.lst ws) ∧ DpAll K H' ws (cw.map ceD) ∧ (∀ c ∈ cw, OkCt c) ∧ cw.length = i) ⟨Bx.Same.but (same_new nD6), src_upd hA3 nDs6, [], [], upd_same, .nil, (fun c hc => by cases hc), rfl⟩ (fun _ _ _ _ => trivial) ?_ ?_
    · rintro i v Hxa Hx hi ⟨sx, hAx, ws, cw, hW, dw, okw, lw⟩ ⟨rfl, rfl⟩
      refine ⟨rfl, ?_⟩
      have hi2 : i < 24 := hi
      have ux : Same B Hx := Bx.SameBut.same w3 nB3 sx
      walk_at "rd"
      refine ⟨_, _, _, _, rfl, rfl, Bx.Same.tup ux rB, atI_nat (j := 0) rfl, ?_⟩
      walk_at "rd"
      show spChg K _ _ _ _
      unfold spChg
      refine ⟨s3, na, t, zs, ns, lns, rfl, hAx, (thB.same ux).n, tx, by omega, Bx.Same.tup ux ht_t, dpAll_same ux dz_t, okb, by omega, fun G us' ms Hy sy hAy hGy dGy okGy lGy => ?_⟩
      have sxy := sx.trans sy
      have hWy := sy _ _ nDs6.symm hW
      have wl : ws.length = cw.length := by rw [da_len dw, List.length_map]
      have tk := tk_lst (K := K) (o := .lst (ws ++ [.ref G])) hWy
      refine ⟨ws, hWy, szl (by omega), but_at nD6 sxy, src_upd hAy nDs6, ws ++ [.ref G], cw ++ [ms], upd_same, ?_, fun c hc => ?_, by rw [List.length_append]; show cw.length + 1 = i + 1; omega⟩
      · rw [List.map_append]
        exact da_app (da_tk tk _ _ (tup_ces cw) (da_tk (tk_but hAx sy) _ _ (tup_ces cw) dw)) (da_one (dp_tk tk _ _ (tup_ce ms) (.tup hGy dGy)))
      · rcases List.mem_append.mp hc with h | h
        · exact okw c h
        · rw [List.mem_singleton.mp h]
          exact ⟨okGy, lGy⟩
    rintro H11a ⟨sx6, hAx6, ws6, cw6, hW6, dw6, okw6, lw6⟩
    have hL6 := sx6 _ _ Ls3 hL10
    have wl6 : ws6.length = cw6.length := by rw [da_len dw6, List.length_map]
    have vl6 : (us9).length = (cts9).length := by rw [da_len d10, List.length_map]
    have lw6' : cw6.length = 24 := lw6
    refine ⟨L, D6, _, _, rfl, rfl, hL6, hW6, sz (by omega), ?_⟩
    have tk6 := tk_lst (K := K) (o := .lst (us9 ++ ws6)) hL6
    have dE6 : DpAll K (upd H11a L (.lst (us9 ++ ws6))) (us9 ++ ws6) ((cts9 ++ cw6).map ceD) := by
      rw [List.map_append]
      exact da_app (da_tk tk6 _ _ (tup_ces _) (da_tk (tk_but hA3 sx6) _ _ (tup_ces _) d10)) (da_tk tk6 _ _ (tup_ces _) dw6)
    have okE6 : ∀ c ∈ cts9 ++ cw6, OkCt c := fun c hc => (List.mem_append.mp hc).elim (ok9 c) (okw6 c)
    have lE6 : (cts9 ++ cw6).length = (cts9).length + 24 := by rw [List.length_append, lw6']
    have hE6 := upd_same (H := H11a) (a := L) (o := .lst (us9 ++ ws6))
    have uB6 : Same B H11a := Bx.SameBut.same w3 nB3 sx6
    have uE6 : Same B (upd H11a L (.lst (us9 ++ ws6))) := same_at nL uB6
    have hAE6 : Src (upd H11a L (.lst (us9 ++ ws6))) s3 := src_upd hAx6 (Ne.symm Ls3)
    generalize upd H11a L (.lst (us9 ++ ws6)) = H11 at dE6 hE6 uE6 hAE6 ⊢
    generalize us9 ++ ws6 = us6 at dE6 hE6 ⊢
    generalize cts9 ++ cw6 = cts6 at dE6 okE6 lE6
    walk_at "rd"
    refine ⟨.inl ⟨rfl, _, sq hE6⟩, ?_⟩
    walk_at "rd"
    refine ⟨by decide, by decide, fun D7 nD7 => ?_⟩
    have nDs7 := src_ne hAE6 nD7
    refine lc_it walk_range (fun i H' => SameBut s3 H11 H' ∧ Src H' s3 ∧ ∃ (ws : List V) (cw : List (List Ln)), H' D7 = some (.lst ws) ∧ DpAll K H' ws (cw.map ceD) ∧ (∀ c ∈ cw, OkCt c) ∧ cw.length = i) ⟨Bx.Same.but (same_new nD7), src_upd hAE6 nDs7, [], [], upd_same, .nil, (fun c hc => by cases hc), rfl⟩ (fun _ _ _ _ => trivial) ?_ ?_
    · rintro i v Hxa Hx hi ⟨sx, hAx, ws, cw, hW, dw, okw, lw⟩ ⟨rfl, rfl⟩
      refine ⟨rfl, ?_⟩
      have hi2 : i < 8 := hi
      have ux : Same B Hx := Bx.SameBut.same uE6 nB3 sx
      walk_at "rd"
      show spWild K _ _ _ _
      unfold spWild
      refine ⟨s3, na, ns, rfl, hAx, (thB.same ux).n, tx, by omega, fun G us' ms Hy sy hAy hGy dGy okGy lGy => ?_⟩
      have sxy := sx.trans sy
      have hWy := sy _ _ nDs7.symm hW
      have wl : ws.length = cw.length := by rw [da_len dw, List.length_map]
      have tk := tk_lst (K := K) (o := .lst (ws ++ [.ref G])) hWy
      refine ⟨ws, hWy, szl (by omega), but_at nD7 sxy, src_upd hAy nDs7, ws ++ [.ref G], cw ++ [ms], upd_same, ?_, fun c hc => ?_, by rw [List.length_append]; show cw.length + 1 = i + 1; omega⟩
      · rw [List.map_append]
        exact da_app (da_tk tk _ _ (tup_ces cw) (da_tk (tk_but hAx sy) _ _ (tup_ces cw) dw)) (da_one (dp_tk tk _ _ (tup_ce ms) (.tup hGy dGy)))
      · rcases List.mem_append.mp hc with h | h
        · exact okw c h
        · rw [List.mem_singleton.mp h]
          exact ⟨okGy, lGy⟩
    rintro H12a ⟨sx7, hAx7, ws7, cw7, hW7, dw7, okw7, lw7⟩
    have hL7 := sx7 _ _ Ls3 hE6
    have wl7 : ws7.length = cw7.length := by rw [da_len dw7, List.length_map]
    have vl7 : (us6).length = (cts6).length := by rw [da_len dE6, List.length_map]
    have lw7' : cw7.length = 8 := lw7
    refine ⟨L, D7, _, _, rfl, rfl, hL7, hW7, sz (by omega), ?_⟩
    have tk7 := tk_lst (K := K) (o := .lst (us6 ++ ws7)) hL7
    have dE7 : DpAll K (upd H12a L (.lst (us6 ++ ws7))) (us6 ++ ws7) ((cts6 ++ cw7).map ceD) := by
      rw [List.map_append]
      exact da_app (da_tk tk7 _ _ (tup_ces _) (da_tk (tk_but hAE6 sx7) _ _ (tup_ces _) dE6)) (da_tk tk7 _ _ (tup_ces _) dw7)
    have okE7 : ∀ c ∈ cts6 ++ cw7, OkCt c := fun c hc => (List.mem_append.mp hc).elim (okE6 c) (okw7 c)
    have lE7 : (cts6 ++ cw7).length = (cts6).length + 8 := by rw [List.length_append, lw7']
    have hE7 := upd_same (H := H12a) (a := L) (o := .lst (us6 ++ ws7))
    have uB7 : Same B H12a := Bx.SameBut.same uE6 nB3 sx7
    have uE7 : Same B (upd H12a L (.lst (us6 ++ ws7))) := same_at nL uB7
    have hAE7 : Src (upd H12a L (.lst (us6 ++ ws7))) s3 := src_upd hAx7 (Ne.symm Ls3)
    generalize upd H12a L (.lst (us6 ++ ws7)) = H12 at dE7 hE7 uE7 hAE7 ⊢
    generalize us6 ++ ws7 = us7 at dE7 hE7 ⊢
    generalize cts6 ++ cw7 = cts7 at dE7 okE7 lE7
    walk_at "rd"
    refine ⟨sa, sc, 4, rfl, Same.seq uE7 sB, by decide, fun s4 n4 c4 ns4 => ?_⟩
    have v4 := same_new ns4 (o := .lst [.int n4, .int c4])
    have hA4 : Src (upd H12 s4 (.lst [.int n4, .int c4])) s4 := ⟨n4, c4, upd_same⟩
    have nB4 : B s4 = none := uE7.free ns4
    have Ls4 : L ≠ s4 := ne_of_none hE7 ns4
    have w4 := uE7.trans v4
    generalize upd H12 s4 (.lst [.int n4, .int c4]) = H13 at v4 hA4 w4 ⊢
    have hL13 := v4 _ _ hE7
    have d13 := dpAll_same v4 dE7
    have okE7' : ∀ c ∈ cts7, OkCt c := okE7
    have vl7' : us7.length = cts7.length := by rw [da_len d13, List.length_map]
    walk_at "rd"
    show spNarrow K _ _ _ _
    unfold spNarrow
    refine ⟨s4, p, ns, d, rfl, hA4, dp_same w4 dpB, vd, okd.2, fun vn dn H14 b14 hA14 dvn vdn => ?_⟩
    obtain ⟨pn, yn, rfl, _⟩ := dp_tup dvn
    have u14 : Same B H14 := Bx.SameBut.same w4 nB4 b14
    walk_at "rd"
    refine ⟨s4, na, p, ns, d, rfl, hA14, (thB.same u14).n, asc, tx, by omega, dp_same u14 dpB, vd, fun vw dw H15 b15 hA15 dvw vdw _ => ?_⟩
    obtain ⟨pw, yw, rfl, _⟩ := dp_tup dvw
    have b45 := b14.trans b15
    have dn15 := dp_tk (tk_but hA14 b15) _ _ (show tupD (clD dn) = true from tup_lits dn) dvn
    have u15 : Same B H15 := Bx.SameBut.same w4 nB4 b45
    have hL15 := b45 _ _ Ls4 hL13
    have d15 := da_tk (tk_but hA4 b45) _ _ (tup_ces _) d13
    refine ⟨sz (by decide), fun e1 ne1 => ?_⟩
    have s16 := same_new ne1 (o := .tup ([] : List V))
    have he1 : Dp K (upd H15 e1 (.tup [])) (.ref e1) (clD []) := .tup (sqt upd_same) .nil
    generalize upd H15 e1 (.tup []) = H16 at s16 he1 ⊢
    refine ⟨sz (by show 4 ≤ 100000; decide), fun Qs nQ => ?_⟩
    have s17 := same_new nQ (o := .lst [.ref p, .ref pn, .ref pw, .ref e1])
    have hQ := upd_same (H := H16) (a := Qs) (o := .lst [.ref p, .ref pn, .ref pw, .ref e1])
    have s1517 := s16.trans s17
    generalize upd H16 Qs (.lst [.ref p, .ref pn, .ref pw, .ref e1]) = Z at s17 hQ s1517 ⊢
    have uZ := u15.trans s1517
    have hLZ := s1517 _ _ hL15
    have dZ := dpAll_same s1517 d15
    have thZ := thB.same uZ
    have kZ := uZ _ _ kB
    have dpZ := dp_same uZ dpB
    have dnZ := dp_same s1517 dn15
    have dwZ := dp_same s1517 dvw
    have deZ := dp_same s17 he1
    have pick : ∀ j : Int, 1 ≤ j → j < 4 → ∃ (pa : Addr) (da : Cl), atI [V.ref p, .ref pn, .ref pw, .ref e1] j = some (.ref pa) ∧ Dp K Z (.ref pa) (clD da) ∧ Vc ns da := fun j h1 h4 => by
      have e : j = ((1 : Nat) : Int) ∨ j = ((2 : Nat) : Int) ∨ j = ((3 : Nat) : Int) := by omega
      rcases e with rfl | rfl | rfl
      · exact ⟨pn, dn, atI_nat rfl, dnZ, vdn⟩
      · exact ⟨pw, dw, atI_nat rfl, dwZ, vdw⟩
      · exact ⟨e1, [], atI_nat rfl, deZ, vc_nil ns⟩
    clear dn15 d15 s16 he1 s17 u15 b15 hA15 dvw u14 b14 hA14 dvn dnZ dwZ deZ d13 hL13 hL15 b45 s1517
    walk_at "rd"
    refine ⟨L, _, rfl, .inl (sq hLZ), ?_⟩
    walk_at "rd"
    have lus : us7.length ≤ 200 := by omega
    refine ⟨by omega, by omega, for_it walk_range (fun i σ H' => ∃ (o9 o11 : Option V), σ = [some (.ref sa), some (.ref k), some (.ref T), some (.ref na), some (.ref s4), some (.ref r), some (.ref p), some (.ref L), some (.ref Qs), o9, o10, o11] ∧ Same Z H') ⟨none, none, rfl, Same.refl Z⟩ (fun _ _ _ _ _ => trivial) ?_ ?_⟩
    · rintro i x σ Hya Hy hi ⟨o9, o11, rfl, uy⟩ ⟨rfl, rfl⟩
      have hi2 : i < us7.length := by omega
      have ev := List.getElem?_eq_getElem hi2
      obtain ⟨ct, hct, dct⟩ := da_atM dZ ev
      have okt := okE7' ct (List.mem_of_getElem? hct)
      generalize us7[i] = vt at ev dct
      obtain ⟨pt, yt, rfl, hpt, dpt⟩ := dp_tup (show Dp K Z vt (.tuple (ct.map lnD)) from dct)
      have hm0 : (0 : Int) ≤ (0 + (i : Nat)) % 3 := Int.emod_nonneg _ (by decide)
      have hm1 : (0 + ((i : Nat) : Int)) % 3 < 3 := Int.emod_lt_of_pos _ (by decide)
      obtain ⟨pa, da, hat, dpa, vda⟩ := pick (1 + (0 + (i : Nat)) % 3) (by omega) (by omega)
      walk_at "rd"
      refine .inl ⟨_, rfl, ?_⟩
      walk_at "rd"
      refine ⟨by show (0 : Int) < 3; decide, ?_⟩
      walk_at "rd"
      refine ⟨_, _, _, _, rfl, rfl, sq (uy _ _ hQ), hat, ?_⟩
      refine ⟨sz (by show 2 ≤ 100000; decide), fun I nI => ?_⟩
      have sI := same_new nI (o := .lst [.ref p, .ref pa])
      have hI := upd_same (H := Hy) (a := I) (o := .lst [.ref p, .ref pa])
      have each : ∀ v ∈ [V.ref p, .ref pa], ∃ (px : Addr) (cx : Cl), v = .ref px ∧ Dp K Z (.ref px) (clD cx) ∧ Vc ns cx := fun v hv => by
        rcases List.mem_cons.mp hv with h | h
        · exact ⟨p, d, h, dpZ, vd⟩
        · exact ⟨pa, da, List.mem_singleton.mp h, dpa, vda⟩
      generalize upd Hy I (.lst [.ref p, .ref pa]) = H20 at sI hI ⊢
      generalize [V.ref p, .ref pa] = is at hI each
      have u20 := uy.trans sI
      refine ⟨I, rfl, ⟨_, sq hI⟩, for_it (walk_list (K := K) (a := I) (xs := is)) (fun j σ H' => ∃ (o11 : Option V), σ = [some (.ref sa), some (.ref k), some (.ref T), some (.ref na), some (.ref s4), some (.ref r), some (.ref p), some (.ref L), some (.ref Qs), some (.int (0 + (i : Nat))), o10, o11] ∧ Same H20 H') ⟨o11, rfl, Same.refl _⟩ (fun j σ H' _ ⟨_, _, s⟩ => sq (s _ _ hI)) ?_ ?_⟩
      · rintro j y σ2 H21a H21 hj ⟨o11', rfl, u21⟩ ⟨rfl, hy⟩
        obtain ⟨px, cx, rfl, dpx, vcx⟩ := each y (List.mem_of_getElem? hy)
        have uz := u20.trans u21
        walk_at "rd"
        refine ⟨_, _, _, _, rfl, rfl, sq (uz _ _ hLZ), (by rw [Int.zero_add]; exact atI_nat ev), ?_⟩
        show spJdg K C _ _ _ _
        unfold spJdg
        refine ⟨k, dk, T, na, ca, px, pt, [], xs, yt, ns, cs, cx, ct, rfl, uz _ _ kZ, rfl, thZ.same uz, vc, tx, by omega, by omega, dp_same uz dpx, vcx, Bx.Same.tup uz hpt, dpAll_same uz dpt, okt.1, okt.2, fun H22 s22 => ?_⟩
        walk_at "rd"
        exact u21.trans s22
      · rintro σ H21 ⟨o11', rfl, u21⟩
        exact ⟨_, _, rfl, u20.trans u21⟩
    · rintro σ Hy ⟨o9, o11, rfl, uy⟩
      walk_at "rd"
      exact q _
end
end K12
namespace K12
open PySem PySem.Spec PyProof.Rows L2 Bx TL Dx Zx Ow Sup NdefX Px
set_option maxHeartbeats 4000000 in
theorem all_mk {l : PySem.W.OpenLaw} {w : World} {K : PySem.W.Frag} {h : Heap} {mg : Str → Option Value} {fa : Addr} (X : K.In h) (G : h.Ns mainGlobals mg) (hfa : mg "law" = some (.ref fa))
    {C : Addr}
    {f_Mcounterexample : Addr} {oc_Mcounterexample kV_Mcounterexample dc_Mcounterexample pm_Mcounterexample cd_Mcounterexample ct_Mcounterexample : Value} {od_Mcounterexample an_Mcounterexample : Option Addr} {sl_Mcounterexample : Array (Option Value)}
    {f_Mcertificate : Addr} {oc_Mcertificate kV_Mcertificate dc_Mcertificate pm_Mcertificate cd_Mcertificate ct_Mcertificate : Value} {od_Mcertificate an_Mcertificate : Option Addr} {sl_Mcertificate : Array (Option Value)}
    {f_Maccepts : Addr} {oc_Maccepts kV_Maccepts dc_Maccepts pm_Maccepts cd_Maccepts ct_Maccepts : Value} {od_Maccepts an_Maccepts : Option Addr} {sl_Maccepts : Array (Option Value)}
    {f_contains : Addr} {oc_contains kV_contains dc_contains pm_contains cd_contains ct_contains : Value} {od_contains an_contains : Option Addr} {sl_contains : Array (Option Value)}
    {f_resolvent : Addr} {oc_resolvent kV_resolvent dc_resolvent pm_resolvent cd_resolvent ct_resolvent : Value} {od_resolvent an_resolvent : Option Addr} {sl_resolvent : Array (Option Value)}
    {f__clause_at : Addr} {oc__clause_at kV__clause_at dc__clause_at pm__clause_at cd__clause_at ct__clause_at : Value} {od__clause_at an__clause_at : Option Addr} {sl__clause_at : Array (Option Value)}
    {f__derived : Addr} {oc__derived kV__derived dc__derived pm__derived cd__derived ct__derived : Value} {od__derived an__derived : Option Addr} {sl__derived : Array (Option Value)}
    {f_derive_lines : Addr} {oc_derive_lines kV_derive_lines dc_derive_lines pm_derive_lines cd_derive_lines ct_derive_lines : Value} {od_derive_lines an_derive_lines : Option Addr} {sl_derive_lines : Array (Option Value)}
    {f__undecided : Addr} {oc__undecided kV__undecided dc__undecided pm__undecided cd__undecided ct__undecided : Value} {od__undecided an__undecided : Option Addr} {sl__undecided : Array (Option Value)}
    {f__fails : Addr} {oc__fails kV__fails dc__fails pm__fails cd__fails ct__fails : Value} {od__fails an__fails : Option Addr} {sl__fails : Array (Option Value)}
    {f__solution : Addr} {oc__solution kV__solution dc__solution pm__solution cd__solution ct__solution : Value} {od__solution an__solution : Option Addr} {sl__solution : Array (Option Value)}
    {f__refute : Addr} {oc__refute kV__refute dc__refute pm__refute cd__refute ct__refute : Value} {od__refute an__refute : Option Addr} {sl__refute : Array (Option Value)}
    {f__law_source : Addr} {oc__law_source kV__law_source dc__law_source pm__law_source cd__law_source ct__law_source : Value} {od__law_source an__law_source : Option Addr} {sl__law_source : Array (Option Value)}
    {f__law_draw : Addr} {oc__law_draw kV__law_draw dc__law_draw pm__law_draw cd__law_draw ct__law_draw : Value} {od__law_draw an__law_draw : Option Addr} {sl__law_draw : Array (Option Value)}
    {f__law_some : Addr} {oc__law_some kV__law_some dc__law_some pm__law_some cd__law_some ct__law_some : Value} {od__law_some an__law_some : Option Addr} {sl__law_some : Array (Option Value)}
    {f__law_is_int : Addr} {oc__law_is_int kV__law_is_int dc__law_is_int pm__law_is_int cd__law_is_int ct__law_is_int : Value} {od__law_is_int an__law_is_int : Option Addr} {sl__law_is_int : Array (Option Value)}
    {f__law_cut : Addr} {oc__law_cut kV__law_cut dc__law_cut pm__law_cut cd__law_cut ct__law_cut : Value} {od__law_cut an__law_cut : Option Addr} {sl__law_cut : Array (Option Value)}
    {f__law_bits_show : Addr} {oc__law_bits_show kV__law_bits_show dc__law_bits_show pm__law_bits_show cd__law_bits_show ct__law_bits_show : Value} {od__law_bits_show an__law_bits_show : Option Addr} {sl__law_bits_show : Array (Option Value)}
    {f__law_clause : Addr} {oc__law_clause kV__law_clause dc__law_clause pm__law_clause cd__law_clause ct__law_clause : Value} {od__law_clause an__law_clause : Option Addr} {sl__law_clause : Array (Option Value)}
    {f__law_theory : Addr} {oc__law_theory kV__law_theory dc__law_theory pm__law_theory cd__law_theory ct__law_theory : Value} {od__law_theory an__law_theory : Option Addr} {sl__law_theory : Array (Option Value)}
    {f__law_derived : Addr} {oc__law_derived kV__law_derived dc__law_derived pm__law_derived cd__law_derived ct__law_derived : Value} {od__law_derived an__law_derived : Option Addr} {sl__law_derived : Array (Option Value)}
    {f__law_widened : Addr} {oc__law_widened kV__law_widened dc__law_widened pm__law_widened cd__law_widened ct__law_widened : Value} {od__law_widened an__law_widened : Option Addr} {sl__law_widened : Array (Option Value)}
    {f__law_narrowed : Addr} {oc__law_narrowed kV__law_narrowed dc__law_narrowed pm__law_narrowed cd__law_narrowed ct__law_narrowed : Value} {od__law_narrowed an__law_narrowed : Option Addr} {sl__law_narrowed : Array (Option Value)}
    {f__law_is_entry : Addr} {oc__law_is_entry kV__law_is_entry dc__law_is_entry pm__law_is_entry cd__law_is_entry ct__law_is_entry : Value} {od__law_is_entry an__law_is_entry : Option Addr} {sl__law_is_entry : Array (Option Value)}
    {f__law_is_certificate : Addr} {oc__law_is_certificate kV__law_is_certificate dc__law_is_certificate pm__law_is_certificate cd__law_is_certificate ct__law_is_certificate : Value} {od__law_is_certificate an__law_is_certificate : Option Addr} {sl__law_is_certificate : Array (Option Value)}
    {f__law_index : Addr} {oc__law_index kV__law_index dc__law_index pm__law_index cd__law_index ct__law_index : Value} {od__law_index an__law_index : Option Addr} {sl__law_index : Array (Option Value)}
    {f__law_entry : Addr} {oc__law_entry kV__law_entry dc__law_entry pm__law_entry cd__law_entry ct__law_entry : Value} {od__law_entry an__law_entry : Option Addr} {sl__law_entry : Array (Option Value)}
    {f__law_changed : Addr} {oc__law_changed kV__law_changed dc__law_changed pm__law_changed cd__law_changed ct__law_changed : Value} {od__law_changed an__law_changed : Option Addr} {sl__law_changed : Array (Option Value)}
    {f__law_wild : Addr} {oc__law_wild kV__law_wild dc__law_wild pm__law_wild cd__law_wild ct__law_wild : Value} {od__law_wild an__law_wild : Option Addr} {sl__law_wild : Array (Option Value)}
    {f__law_judged : Addr} {oc__law_judged kV__law_judged dc__law_judged pm__law_judged cd__law_judged ct__law_judged : Value} {od__law_judged an__law_judged : Option Addr} {sl__law_judged : Array (Option Value)}
    {f_law : Addr} {oc_law kV_law dc_law pm_law cd_law ct_law : Value} {od_law an_law : Option Addr} {sl_law : Array (Option Value)}
    (aC : PySem.W.nsIn K mainGlobals "Bits" = some (some (.ref C)))
    (pg : PySem.W.plainGet K C Str.empty = true)
    (hd : PySem.W.hasDictIn K C = true)
    (po : PySem.W.plainOver K C = true)
    (sa : PySem.W.findIn K (.ref C) "__setattr__" = some (some (.builtin "object.__setattr__")))
    (mk : PySem.W.makesIn K C = true)
    (kc : PySem.W.keepIn K (.ref C) = true)
    (ini : PySem.W.findIn K (.ref C) "__init__" = some (some (.builtin "object.__init__")))
    (a_Mcounterexample : PySem.W.findIn K (.ref C) "counterexample" = some (some (.ref f_Mcounterexample))) (l_Mcounterexample : K.lookup f_Mcounterexample = some ⟨oc_Mcounterexample, od_Mcounterexample, .func (PySem.W.fnOf "counterexample" "Bits.counterexample" (defArgs s_Bits_counterexample) (defBody s_Bits_counterexample) (defScope s_Bits_counterexample) .none kV_Mcounterexample dc_Mcounterexample pm_Mcounterexample an_Mcounterexample cd_Mcounterexample ct_Mcounterexample), sl_Mcounterexample⟩) (c_Mcounterexample : PySem.W.codeIn K cd_Mcounterexample "Bits.counterexample" = true) (k_Mcounterexample : PySem.W.keepIn K (.ref f_Mcounterexample) = true)
    (i_Mcounterexample : PySem.W.isFn K (.ref f_Mcounterexample) = true)
    (a_Mcertificate : PySem.W.findIn K (.ref C) "certificate" = some (some (.ref f_Mcertificate))) (l_Mcertificate : K.lookup f_Mcertificate = some ⟨oc_Mcertificate, od_Mcertificate, .func (PySem.W.fnOf "certificate" "Bits.certificate" (defArgs s_Bits_certificate) (defBody s_Bits_certificate) (defScope s_Bits_certificate) .none kV_Mcertificate dc_Mcertificate pm_Mcertificate an_Mcertificate cd_Mcertificate ct_Mcertificate), sl_Mcertificate⟩) (c_Mcertificate : PySem.W.codeIn K cd_Mcertificate "Bits.certificate" = true) (k_Mcertificate : PySem.W.keepIn K (.ref f_Mcertificate) = true)
    (i_Mcertificate : PySem.W.isFn K (.ref f_Mcertificate) = true)
    (a_Maccepts : PySem.W.findIn K (.ref C) "accepts" = some (some (.ref f_Maccepts))) (l_Maccepts : K.lookup f_Maccepts = some ⟨oc_Maccepts, od_Maccepts, .func (PySem.W.fnOf "accepts" "Bits.accepts" (defArgs s_Bits_accepts) (defBody s_Bits_accepts) (defScope s_Bits_accepts) .none kV_Maccepts dc_Maccepts pm_Maccepts an_Maccepts cd_Maccepts ct_Maccepts), sl_Maccepts⟩) (c_Maccepts : PySem.W.codeIn K cd_Maccepts "Bits.accepts" = true) (k_Maccepts : PySem.W.keepIn K (.ref f_Maccepts) = true)
    (i_Maccepts : PySem.W.isFn K (.ref f_Maccepts) = true)
    (a_contains : PySem.W.nsIn K mainGlobals "contains" = some (some (.ref f_contains))) (l_contains : K.lookup f_contains = some ⟨oc_contains, od_contains, .func (PySem.W.fnOf "contains" "contains" (defArgs s_contains) (defBody s_contains) (defScope s_contains) .none kV_contains dc_contains pm_contains an_contains cd_contains ct_contains), sl_contains⟩) (c_contains : PySem.W.codeIn K cd_contains "contains" = true) (k_contains : PySem.W.keepIn K (.ref f_contains) = true)
    (a_resolvent : PySem.W.nsIn K mainGlobals "resolvent" = some (some (.ref f_resolvent))) (l_resolvent : K.lookup f_resolvent = some ⟨oc_resolvent, od_resolvent, .func (PySem.W.fnOf "resolvent" "resolvent" (defArgs s_resolvent) (defBody s_resolvent) (defScope s_resolvent) .none kV_resolvent dc_resolvent pm_resolvent an_resolvent cd_resolvent ct_resolvent), sl_resolvent⟩) (c_resolvent : PySem.W.codeIn K cd_resolvent "resolvent" = true) (k_resolvent : PySem.W.keepIn K (.ref f_resolvent) = true)
    (a__clause_at : PySem.W.nsIn K mainGlobals "_clause_at" = some (some (.ref f__clause_at))) (l__clause_at : K.lookup f__clause_at = some ⟨oc__clause_at, od__clause_at, .func (PySem.W.fnOf "_clause_at" "_clause_at" (defArgs s__clause_at) (defBody s__clause_at) (defScope s__clause_at) .none kV__clause_at dc__clause_at pm__clause_at an__clause_at cd__clause_at ct__clause_at), sl__clause_at⟩) (c__clause_at : PySem.W.codeIn K cd__clause_at "_clause_at" = true) (k__clause_at : PySem.W.keepIn K (.ref f__clause_at) = true)
    (a__derived : PySem.W.nsIn K mainGlobals "_derived" = some (some (.ref f__derived))) (l__derived : K.lookup f__derived = some ⟨oc__derived, od__derived, .func (PySem.W.fnOf "_derived" "_derived" (defArgs s__derived) (defBody s__derived) (defScope s__derived) .none kV__derived dc__derived pm__derived an__derived cd__derived ct__derived), sl__derived⟩) (c__derived : PySem.W.codeIn K cd__derived "_derived" = true) (k__derived : PySem.W.keepIn K (.ref f__derived) = true)
    (a_derive_lines : PySem.W.nsIn K mainGlobals "derive_lines" = some (some (.ref f_derive_lines))) (l_derive_lines : K.lookup f_derive_lines = some ⟨oc_derive_lines, od_derive_lines, .func (PySem.W.fnOf "derive_lines" "derive_lines" (defArgs s_derive_lines) (defBody s_derive_lines) (defScope s_derive_lines) .none kV_derive_lines dc_derive_lines pm_derive_lines an_derive_lines cd_derive_lines ct_derive_lines), sl_derive_lines⟩) (c_derive_lines : PySem.W.codeIn K cd_derive_lines "derive_lines" = true) (k_derive_lines : PySem.W.keepIn K (.ref f_derive_lines) = true)
    (a__undecided : PySem.W.nsIn K mainGlobals "_undecided" = some (some (.ref f__undecided))) (l__undecided : K.lookup f__undecided = some ⟨oc__undecided, od__undecided, .func (PySem.W.fnOf "_undecided" "_undecided" (defArgs s__undecided) (defBody s__undecided) (defScope s__undecided) .none kV__undecided dc__undecided pm__undecided an__undecided cd__undecided ct__undecided), sl__undecided⟩) (c__undecided : PySem.W.codeIn K cd__undecided "_undecided" = true) (k__undecided : PySem.W.keepIn K (.ref f__undecided) = true)
    (a__fails : PySem.W.nsIn K mainGlobals "_fails" = some (some (.ref f__fails))) (l__fails : K.lookup f__fails = some ⟨oc__fails, od__fails, .func (PySem.W.fnOf "_fails" "_fails" (defArgs s__fails) (defBody s__fails) (defScope s__fails) .none kV__fails dc__fails pm__fails an__fails cd__fails ct__fails), sl__fails⟩) (c__fails : PySem.W.codeIn K cd__fails "_fails" = true) (k__fails : PySem.W.keepIn K (.ref f__fails) = true)
    (a__solution : PySem.W.nsIn K mainGlobals "_solution" = some (some (.ref f__solution))) (l__solution : K.lookup f__solution = some ⟨oc__solution, od__solution, .func (PySem.W.fnOf "_solution" "_solution" (defArgs s__solution) (defBody s__solution) (defScope s__solution) .none kV__solution dc__solution pm__solution an__solution cd__solution ct__solution), sl__solution⟩) (c__solution : PySem.W.codeIn K cd__solution "_solution" = true) (k__solution : PySem.W.keepIn K (.ref f__solution) = true)
    (a__refute : PySem.W.nsIn K mainGlobals "_refute" = some (some (.ref f__refute))) (l__refute : K.lookup f__refute = some ⟨oc__refute, od__refute, .func (PySem.W.fnOf "_refute" "_refute" (defArgs s__refute) (defBody s__refute) (defScope s__refute) .none kV__refute dc__refute pm__refute an__refute cd__refute ct__refute), sl__refute⟩) (c__refute : PySem.W.codeIn K cd__refute "_refute" = true) (k__refute : PySem.W.keepIn K (.ref f__refute) = true)
    (a__law_source : PySem.W.nsIn K mainGlobals "_law_source" = some (some (.ref f__law_source))) (l__law_source : K.lookup f__law_source = some ⟨oc__law_source, od__law_source, .func (PySem.W.fnOf "_law_source" "_law_source" (defArgs s__law_source) (defBody s__law_source) (defScope s__law_source) .none kV__law_source dc__law_source pm__law_source an__law_source cd__law_source ct__law_source), sl__law_source⟩) (c__law_source : PySem.W.codeIn K cd__law_source "_law_source" = true) (k__law_source : PySem.W.keepIn K (.ref f__law_source) = true)
    (a__law_draw : PySem.W.nsIn K mainGlobals "_law_draw" = some (some (.ref f__law_draw))) (l__law_draw : K.lookup f__law_draw = some ⟨oc__law_draw, od__law_draw, .func (PySem.W.fnOf "_law_draw" "_law_draw" (defArgs s__law_draw) (defBody s__law_draw) (defScope s__law_draw) .none kV__law_draw dc__law_draw pm__law_draw an__law_draw cd__law_draw ct__law_draw), sl__law_draw⟩) (c__law_draw : PySem.W.codeIn K cd__law_draw "_law_draw" = true) (k__law_draw : PySem.W.keepIn K (.ref f__law_draw) = true)
    (a__law_some : PySem.W.nsIn K mainGlobals "_law_some" = some (some (.ref f__law_some))) (l__law_some : K.lookup f__law_some = some ⟨oc__law_some, od__law_some, .func (PySem.W.fnOf "_law_some" "_law_some" (defArgs s__law_some) (defBody s__law_some) (defScope s__law_some) .none kV__law_some dc__law_some pm__law_some an__law_some cd__law_some ct__law_some), sl__law_some⟩) (c__law_some : PySem.W.codeIn K cd__law_some "_law_some" = true) (k__law_some : PySem.W.keepIn K (.ref f__law_some) = true)
    (a__law_is_int : PySem.W.nsIn K mainGlobals "_law_is_int" = some (some (.ref f__law_is_int))) (l__law_is_int : K.lookup f__law_is_int = some ⟨oc__law_is_int, od__law_is_int, .func (PySem.W.fnOf "_law_is_int" "_law_is_int" (defArgs s__law_is_int) (defBody s__law_is_int) (defScope s__law_is_int) .none kV__law_is_int dc__law_is_int pm__law_is_int an__law_is_int cd__law_is_int ct__law_is_int), sl__law_is_int⟩) (c__law_is_int : PySem.W.codeIn K cd__law_is_int "_law_is_int" = true) (k__law_is_int : PySem.W.keepIn K (.ref f__law_is_int) = true)
    (a__law_cut : PySem.W.nsIn K mainGlobals "_law_cut" = some (some (.ref f__law_cut))) (l__law_cut : K.lookup f__law_cut = some ⟨oc__law_cut, od__law_cut, .func (PySem.W.fnOf "_law_cut" "_law_cut" (defArgs s__law_cut) (defBody s__law_cut) (defScope s__law_cut) .none kV__law_cut dc__law_cut pm__law_cut an__law_cut cd__law_cut ct__law_cut), sl__law_cut⟩) (c__law_cut : PySem.W.codeIn K cd__law_cut "_law_cut" = true) (k__law_cut : PySem.W.keepIn K (.ref f__law_cut) = true)
    (a__law_bits_show : PySem.W.nsIn K mainGlobals "_law_bits_show" = some (some (.ref f__law_bits_show))) (l__law_bits_show : K.lookup f__law_bits_show = some ⟨oc__law_bits_show, od__law_bits_show, .func (PySem.W.fnOf "_law_bits_show" "_law_bits_show" (defArgs s__law_bits_show) (defBody s__law_bits_show) (defScope s__law_bits_show) .none kV__law_bits_show dc__law_bits_show pm__law_bits_show an__law_bits_show cd__law_bits_show ct__law_bits_show), sl__law_bits_show⟩) (c__law_bits_show : PySem.W.codeIn K cd__law_bits_show "_law_bits_show" = true) (k__law_bits_show : PySem.W.keepIn K (.ref f__law_bits_show) = true)
    (a__law_clause : PySem.W.nsIn K mainGlobals "_law_clause" = some (some (.ref f__law_clause))) (l__law_clause : K.lookup f__law_clause = some ⟨oc__law_clause, od__law_clause, .func (PySem.W.fnOf "_law_clause" "_law_clause" (defArgs s__law_clause) (defBody s__law_clause) (defScope s__law_clause) .none kV__law_clause dc__law_clause pm__law_clause an__law_clause cd__law_clause ct__law_clause), sl__law_clause⟩) (c__law_clause : PySem.W.codeIn K cd__law_clause "_law_clause" = true) (k__law_clause : PySem.W.keepIn K (.ref f__law_clause) = true)
    (a__law_theory : PySem.W.nsIn K mainGlobals "_law_theory" = some (some (.ref f__law_theory))) (l__law_theory : K.lookup f__law_theory = some ⟨oc__law_theory, od__law_theory, .func (PySem.W.fnOf "_law_theory" "_law_theory" (defArgs s__law_theory) (defBody s__law_theory) (defScope s__law_theory) .none kV__law_theory dc__law_theory pm__law_theory an__law_theory cd__law_theory ct__law_theory), sl__law_theory⟩) (c__law_theory : PySem.W.codeIn K cd__law_theory "_law_theory" = true) (k__law_theory : PySem.W.keepIn K (.ref f__law_theory) = true)
    (a__law_derived : PySem.W.nsIn K mainGlobals "_law_derived" = some (some (.ref f__law_derived))) (l__law_derived : K.lookup f__law_derived = some ⟨oc__law_derived, od__law_derived, .func (PySem.W.fnOf "_law_derived" "_law_derived" (defArgs s__law_derived) (defBody s__law_derived) (defScope s__law_derived) .none kV__law_derived dc__law_derived pm__law_derived an__law_derived cd__law_derived ct__law_derived), sl__law_derived⟩) (c__law_derived : PySem.W.codeIn K cd__law_derived "_law_derived" = true) (k__law_derived : PySem.W.keepIn K (.ref f__law_derived) = true)
    (a__law_widened : PySem.W.nsIn K mainGlobals "_law_widened" = some (some (.ref f__law_widened))) (l__law_widened : K.lookup f__law_widened = some ⟨oc__law_widened, od__law_widened, .func (PySem.W.fnOf "_law_widened" "_law_widened" (defArgs s__law_widened) (defBody s__law_widened) (defScope s__law_widened) .none kV__law_widened dc__law_widened pm__law_widened an__law_widened cd__law_widened ct__law_widened), sl__law_widened⟩) (c__law_widened : PySem.W.codeIn K cd__law_widened "_law_widened" = true) (k__law_widened : PySem.W.keepIn K (.ref f__law_widened) = true)
    (a__law_narrowed : PySem.W.nsIn K mainGlobals "_law_narrowed" = some (some (.ref f__law_narrowed))) (l__law_narrowed : K.lookup f__law_narrowed = some ⟨oc__law_narrowed, od__law_narrowed, .func (PySem.W.fnOf "_law_narrowed" "_law_narrowed" (defArgs s__law_narrowed) (defBody s__law_narrowed) (defScope s__law_narrowed) .none kV__law_narrowed dc__law_narrowed pm__law_narrowed an__law_narrowed cd__law_narrowed ct__law_narrowed), sl__law_narrowed⟩) (c__law_narrowed : PySem.W.codeIn K cd__law_narrowed "_law_narrowed" = true) (k__law_narrowed : PySem.W.keepIn K (.ref f__law_narrowed) = true)
    (a__law_is_entry : PySem.W.nsIn K mainGlobals "_law_is_entry" = some (some (.ref f__law_is_entry))) (l__law_is_entry : K.lookup f__law_is_entry = some ⟨oc__law_is_entry, od__law_is_entry, .func (PySem.W.fnOf "_law_is_entry" "_law_is_entry" (defArgs s__law_is_entry) (defBody s__law_is_entry) (defScope s__law_is_entry) .none kV__law_is_entry dc__law_is_entry pm__law_is_entry an__law_is_entry cd__law_is_entry ct__law_is_entry), sl__law_is_entry⟩) (c__law_is_entry : PySem.W.codeIn K cd__law_is_entry "_law_is_entry" = true) (k__law_is_entry : PySem.W.keepIn K (.ref f__law_is_entry) = true)
    (a__law_is_certificate : PySem.W.nsIn K mainGlobals "_law_is_certificate" = some (some (.ref f__law_is_certificate))) (l__law_is_certificate : K.lookup f__law_is_certificate = some ⟨oc__law_is_certificate, od__law_is_certificate, .func (PySem.W.fnOf "_law_is_certificate" "_law_is_certificate" (defArgs s__law_is_certificate) (defBody s__law_is_certificate) (defScope s__law_is_certificate) .none kV__law_is_certificate dc__law_is_certificate pm__law_is_certificate an__law_is_certificate cd__law_is_certificate ct__law_is_certificate), sl__law_is_certificate⟩) (c__law_is_certificate : PySem.W.codeIn K cd__law_is_certificate "_law_is_certificate" = true) (k__law_is_certificate : PySem.W.keepIn K (.ref f__law_is_certificate) = true)
    (a__law_index : PySem.W.nsIn K mainGlobals "_law_index" = some (some (.ref f__law_index))) (l__law_index : K.lookup f__law_index = some ⟨oc__law_index, od__law_index, .func (PySem.W.fnOf "_law_index" "_law_index" (defArgs s__law_index) (defBody s__law_index) (defScope s__law_index) .none kV__law_index dc__law_index pm__law_index an__law_index cd__law_index ct__law_index), sl__law_index⟩) (c__law_index : PySem.W.codeIn K cd__law_index "_law_index" = true) (k__law_index : PySem.W.keepIn K (.ref f__law_index) = true)
    (a__law_entry : PySem.W.nsIn K mainGlobals "_law_entry" = some (some (.ref f__law_entry))) (l__law_entry : K.lookup f__law_entry = some ⟨oc__law_entry, od__law_entry, .func (PySem.W.fnOf "_law_entry" "_law_entry" (defArgs s__law_entry) (defBody s__law_entry) (defScope s__law_entry) .none kV__law_entry dc__law_entry pm__law_entry an__law_entry cd__law_entry ct__law_entry), sl__law_entry⟩) (c__law_entry : PySem.W.codeIn K cd__law_entry "_law_entry" = true) (k__law_entry : PySem.W.keepIn K (.ref f__law_entry) = true)
    (a__law_changed : PySem.W.nsIn K mainGlobals "_law_changed" = some (some (.ref f__law_changed))) (l__law_changed : K.lookup f__law_changed = some ⟨oc__law_changed, od__law_changed, .func (PySem.W.fnOf "_law_changed" "_law_changed" (defArgs s__law_changed) (defBody s__law_changed) (defScope s__law_changed) .none kV__law_changed dc__law_changed pm__law_changed an__law_changed cd__law_changed ct__law_changed), sl__law_changed⟩) (c__law_changed : PySem.W.codeIn K cd__law_changed "_law_changed" = true) (k__law_changed : PySem.W.keepIn K (.ref f__law_changed) = true)
    (a__law_wild : PySem.W.nsIn K mainGlobals "_law_wild" = some (some (.ref f__law_wild))) (l__law_wild : K.lookup f__law_wild = some ⟨oc__law_wild, od__law_wild, .func (PySem.W.fnOf "_law_wild" "_law_wild" (defArgs s__law_wild) (defBody s__law_wild) (defScope s__law_wild) .none kV__law_wild dc__law_wild pm__law_wild an__law_wild cd__law_wild ct__law_wild), sl__law_wild⟩) (c__law_wild : PySem.W.codeIn K cd__law_wild "_law_wild" = true) (k__law_wild : PySem.W.keepIn K (.ref f__law_wild) = true)
    (a__law_judged : PySem.W.nsIn K mainGlobals "_law_judged" = some (some (.ref f__law_judged))) (l__law_judged : K.lookup f__law_judged = some ⟨oc__law_judged, od__law_judged, .func (PySem.W.fnOf "_law_judged" "_law_judged" (defArgs s__law_judged) (defBody s__law_judged) (defScope s__law_judged) .none kV__law_judged dc__law_judged pm__law_judged an__law_judged cd__law_judged ct__law_judged), sl__law_judged⟩) (c__law_judged : PySem.W.codeIn K cd__law_judged "_law_judged" = true) (k__law_judged : PySem.W.keepIn K (.ref f__law_judged) = true)
    (a_law : PySem.W.nsIn K mainGlobals "law" = some (some (.ref f_law))) (l_law : K.lookup f_law = some ⟨oc_law, od_law, .func (PySem.W.fnOf "law" "law" (defArgs s_law) (defBody s_law) (defScope s_law) .none kV_law dc_law pm_law an_law cd_law ct_law), sl_law⟩) (c_law : PySem.W.codeIn K cd_law "law" = true) (k_law : PySem.W.keepIn K (.ref f_law) = true)
    (z_all : PySem.W.nsIn K mainGlobals "all" = some none)
    (z_len : PySem.W.nsIn K mainGlobals "len" = some none)
    (z_set : PySem.W.nsIn K mainGlobals "set" = some none)
    (z_sorted : PySem.W.nsIn K mainGlobals "sorted" = some none)
    (z_tuple : PySem.W.nsIn K mainGlobals "tuple" = some none)
    (z_any : PySem.W.nsIn K mainGlobals "any" = some none)
    (z_enumerate : PySem.W.nsIn K mainGlobals "enumerate" = some none)
    (z_list : PySem.W.nsIn K mainGlobals "list" = some none)
    (z_int : PySem.W.nsIn K mainGlobals "int" = some none)
    (z_isinstance : PySem.W.nsIn K mainGlobals "isinstance" = some none)
    (z_bool : PySem.W.nsIn K mainGlobals "bool" = some none)
    (z_range : PySem.W.nsIn K mainGlobals "range" = some none)
    (z_str : PySem.W.nsIn K mainGlobals "str" = some none)
    : ∃ fd : FuncData, (∀ (s : Shared) (v : Value), BindsTo s fd ⟨[v], []⟩ [("_law_script", v)]) ∧ ∀ base : Heap, K.In base → base.Ns mainGlobals mg → FnOk l.prog w K mg base CX0 10 fa fd ["_law_script"] (spLaw K) := by
  have e := hfa.symm.trans (PySem.W.mg_of X G a_law)
  cases e
  have F_Mcounterexample := fun_mk (x := "counterexample") (qual := "Bits.counterexample") (st := s_Bits_counterexample) l_Mcounterexample c_Mcounterexample k_Mcounterexample
  have b_Mcounterexample := F_Mcounterexample.binds (ps := ["self", "theory", "constraint"]) fun _ _ _ _ _ _ us hl => match us, hl with | [_, _, _], _ => rfl
  have F_Mcertificate := fun_mk (x := "certificate") (qual := "Bits.certificate") (st := s_Bits_certificate) l_Mcertificate c_Mcertificate k_Mcertificate
  have b_Mcertificate := F_Mcertificate.binds (ps := ["self", "theory", "constraint"]) fun _ _ _ _ _ _ us hl => match us, hl with | [_, _, _], _ => rfl
  have F_Maccepts := fun_mk (x := "accepts") (qual := "Bits.accepts") (st := s_Bits_accepts) l_Maccepts c_Maccepts k_Maccepts
  have b_Maccepts := F_Maccepts.binds (ps := ["self", "theory", "constraint", "certificate"]) fun _ _ _ _ _ _ us hl => match us, hl with | [_, _, _, _], _ => rfl
  have F_contains := fun_mk (x := "contains") (qual := "contains") (st := s_contains) l_contains c_contains k_contains
  have b_contains := F_contains.binds (ps := ["first", "second"]) fun _ _ _ _ _ _ us hl => match us, hl with | [_, _], _ => rfl
  have F_resolvent := fun_mk (x := "resolvent") (qual := "resolvent") (st := s_resolvent) l_resolvent c_resolvent k_resolvent
  have b_resolvent := F_resolvent.binds (ps := ["first", "second", "name"]) fun _ _ _ _ _ _ us hl => match us, hl with | [_, _, _], _ => rfl
  have F__clause_at := fun_mk (x := "_clause_at") (qual := "_clause_at") (st := s__clause_at) l__clause_at c__clause_at k__clause_at
  have b__clause_at := F__clause_at.binds (ps := ["clauses", "index"]) fun _ _ _ _ _ _ us hl => match us, hl with | [_, _], _ => rfl
  have F__derived := fun_mk (x := "_derived") (qual := "_derived") (st := s__derived) l__derived c__derived k__derived
  have b__derived := F__derived.binds (ps := ["clauses", "before", "line"]) fun _ _ _ _ _ _ us hl => match us, hl with | [_, _, _], _ => rfl
  have F_derive_lines := fun_mk (x := "derive_lines") (qual := "derive_lines") (st := s_derive_lines) l_derive_lines c_derive_lines k_derive_lines
  have b_derive_lines := F_derive_lines.binds (ps := ["clauses", "certificate"]) fun _ _ _ _ _ _ us hl => match us, hl with | [_, _], _ => rfl
  have F__undecided := fun_mk (x := "_undecided") (qual := "_undecided") (st := s__undecided) l__undecided c__undecided k__undecided
  have b__undecided := F__undecided.binds (ps := ["theory", "constraint"]) fun _ _ _ _ _ _ us hl => match us, hl with | [_, _], _ => rfl
  have F__fails := fun_mk (x := "_fails") (qual := "_fails") (st := s__fails) l__fails c__fails k__fails
  have b__fails := F__fails.binds (ps := ["clause", "decided"]) fun _ _ _ _ _ _ us hl => match us, hl with | [_, _], _ => rfl
  have F__solution := fun_mk (x := "_solution") (qual := "_solution") (st := s__solution) l__solution c__solution k__solution
  have b__solution := F__solution.binds (ps := ["names", "clauses", "decided"]) fun _ _ _ _ _ _ us hl => match us, hl with | [_, _, _], _ => rfl
  have F__refute := fun_mk (x := "_refute") (qual := "_refute") (st := s__refute) l__refute c__refute k__refute
  have b__refute := F__refute.binds (ps := ["names", "clauses", "decided", "lines"]) fun _ _ _ _ _ _ us hl => match us, hl with | [_, _, _, _], _ => rfl
  have F__law_source := fun_mk (x := "_law_source") (qual := "_law_source") (st := s__law_source) l__law_source c__law_source k__law_source
  have b__law_source := F__law_source.binds (ps := ["_law_script", "_law_k"]) fun _ _ _ _ _ _ us hl => match us, hl with | [_, _], _ => rfl
  have F__law_draw := fun_mk (x := "_law_draw") (qual := "_law_draw") (st := s__law_draw) l__law_draw c__law_draw k__law_draw
  have b__law_draw := F__law_draw.binds (ps := ["_law_source_here", "_law_limit"]) fun _ _ _ _ _ _ us hl => match us, hl with | [_, _], _ => rfl
  have F__law_some := fun_mk (x := "_law_some") (qual := "_law_some") (st := s__law_some) l__law_some c__law_some k__law_some
  have b__law_some := F__law_some.binds (ps := ["_law_source_here", "_law_names", "_law_most"]) fun _ _ _ _ _ _ us hl => match us, hl with | [_, _, _], _ => rfl
  have F__law_is_int := fun_mk (x := "_law_is_int") (qual := "_law_is_int") (st := s__law_is_int) l__law_is_int c__law_is_int k__law_is_int
  have b__law_is_int := F__law_is_int.binds (ps := ["_law_value"]) fun _ _ _ _ _ _ us hl => match us, hl with | [_], _ => rfl
  have F__law_cut := fun_mk (x := "_law_cut") (qual := "_law_cut") (st := s__law_cut) l__law_cut c__law_cut k__law_cut
  have b__law_cut := F__law_cut.binds (ps := ["_law_first", "_law_second", "_law_name"]) fun _ _ _ _ _ _ us hl => match us, hl with | [_, _, _], _ => rfl
  have F__law_bits_show := fun_mk (x := "_law_bits_show") (qual := "_law_bits_show") (st := s__law_bits_show) l__law_bits_show c__law_bits_show k__law_bits_show
  have b__law_bits_show := F__law_bits_show.binds (ps := ["_law_theory_here", "_law_constraint", "_law_certificate"]) fun _ _ _ _ _ _ us hl => match us, hl with | [_, _, _], _ => rfl
  have F__law_clause := fun_mk (x := "_law_clause") (qual := "_law_clause") (st := s__law_clause) l__law_clause c__law_clause k__law_clause
  have b__law_clause := F__law_clause.binds (ps := ["_law_source_here", "_law_names"]) fun _ _ _ _ _ _ us hl => match us, hl with | [_, _], _ => rfl
  have F__law_theory := fun_mk (x := "_law_theory") (qual := "_law_theory") (st := s__law_theory) l__law_theory c__law_theory k__law_theory
  have b__law_theory := F__law_theory.binds (ps := ["_law_source_here"]) fun _ _ _ _ _ _ us hl => match us, hl with | [_], _ => rfl
  have F__law_derived := fun_mk (x := "_law_derived") (qual := "_law_derived") (st := s__law_derived) l__law_derived c__law_derived k__law_derived
  have b__law_derived := F__law_derived.binds (ps := ["_law_source_here", "_law_theory_here"]) fun _ _ _ _ _ _ us hl => match us, hl with | [_, _], _ => rfl
  have F__law_widened := fun_mk (x := "_law_widened") (qual := "_law_widened") (st := s__law_widened) l__law_widened c__law_widened k__law_widened
  have b__law_widened := F__law_widened.binds (ps := ["_law_source_here", "_law_names", "_law_clause_here"]) fun _ _ _ _ _ _ us hl => match us, hl with | [_, _, _], _ => rfl
  have F__law_narrowed := fun_mk (x := "_law_narrowed") (qual := "_law_narrowed") (st := s__law_narrowed) l__law_narrowed c__law_narrowed k__law_narrowed
  have b__law_narrowed := F__law_narrowed.binds (ps := ["_law_source_here", "_law_clause_here"]) fun _ _ _ _ _ _ us hl => match us, hl with | [_, _], _ => rfl
  have F__law_is_entry := fun_mk (x := "_law_is_entry") (qual := "_law_is_entry") (st := s__law_is_entry) l__law_is_entry c__law_is_entry k__law_is_entry
  have b__law_is_entry := F__law_is_entry.binds (ps := ["_law_entry_here"]) fun _ _ _ _ _ _ us hl => match us, hl with | [_], _ => rfl
  have F__law_is_certificate := fun_mk (x := "_law_is_certificate") (qual := "_law_is_certificate") (st := s__law_is_certificate) l__law_is_certificate c__law_is_certificate k__law_is_certificate
  have b__law_is_certificate := F__law_is_certificate.binds (ps := ["_law_certificate"]) fun _ _ _ _ _ _ us hl => match us, hl with | [_], _ => rfl
  have F__law_index := fun_mk (x := "_law_index") (qual := "_law_index") (st := s__law_index) l__law_index c__law_index k__law_index
  have b__law_index := F__law_index.binds (ps := ["_law_source_here", "_law_index_here", "_law_count"]) fun _ _ _ _ _ _ us hl => match us, hl with | [_, _, _], _ => rfl
  have F__law_entry := fun_mk (x := "_law_entry") (qual := "_law_entry") (st := s__law_entry) l__law_entry c__law_entry k__law_entry
  have b__law_entry := F__law_entry.binds (ps := ["_law_source_here", "_law_names", "_law_entry_here", "_law_at", "_law_count"]) fun _ _ _ _ _ _ us hl => match us, hl with | [_, _, _, _, _], _ => rfl
  have F__law_changed := fun_mk (x := "_law_changed") (qual := "_law_changed") (st := s__law_changed) l__law_changed c__law_changed k__law_changed
  have b__law_changed := F__law_changed.binds (ps := ["_law_source_here", "_law_names", "_law_certificate"]) fun _ _ _ _ _ _ us hl => match us, hl with | [_, _, _], _ => rfl
  have F__law_wild := fun_mk (x := "_law_wild") (qual := "_law_wild") (st := s__law_wild) l__law_wild c__law_wild k__law_wild
  have b__law_wild := F__law_wild.binds (ps := ["_law_source_here", "_law_names"]) fun _ _ _ _ _ _ us hl => match us, hl with | [_, _], _ => rfl
  have F__law_judged := fun_mk (x := "_law_judged") (qual := "_law_judged") (st := s__law_judged) l__law_judged c__law_judged k__law_judged
  have b__law_judged := F__law_judged.binds (ps := ["_law_kind", "_law_theory_here", "_law_question", "_law_certificate"]) fun _ _ _ _ _ _ us hl => match us, hl with | [_, _, _, _], _ => rfl
  have F_law := fun_mk (x := "law") (qual := "law") (st := s_law) l_law c_law k_law
  have m_all := PySem.W.mg_none_of X G z_all
  have m_len := PySem.W.mg_none_of X G z_len
  have m_set := PySem.W.mg_none_of X G z_set
  have m_sorted := PySem.W.mg_none_of X G z_sorted
  have m_tuple := PySem.W.mg_none_of X G z_tuple
  have m_any := PySem.W.mg_none_of X G z_any
  have m_enumerate := PySem.W.mg_none_of X G z_enumerate
  have m_list := PySem.W.mg_none_of X G z_list
  have m_int := PySem.W.mg_none_of X G z_int
  have m_isinstance := PySem.W.mg_none_of X G z_isinstance
  have m_bool := PySem.W.mg_none_of X G z_bool
  have m_range := PySem.W.mg_none_of X G z_range
  have m_str := PySem.W.mg_none_of X G z_str
  have cl : Cls K C := ⟨pg, hd, po, sa⟩
  have B_Bits : Mk0.Bare K mg "Bits" C := ⟨mk, ini, kc, PySem.W.mg_of X G aC⟩
  refine ⟨PySem.W.fnOf "law" "law" (defArgs s_law) (defBody s_law) (defScope s_law) .none kV_law dc_law pm_law an_law cd_law ct_law, fun s v => .of_eq rfl, fun base _ _ => ?_⟩
  have C_contains : Cal l.prog w K mg base "contains" 1 ["first", "second"] (spContains K) := ⟨_, _, ok_contains (F := F_contains) (m_all := m_all), PySem.W.mg_of X G a_contains, F_contains.kp, b_contains⟩
  have C_resolvent : Cal l.prog w K mg base "resolvent" 1 ["first", "second", "name"] (spRes K) := ⟨_, _, ok_resolvent (F := F_resolvent) (m_len := m_len) (m_set := m_set) (m_sorted := m_sorted) (m_tuple := m_tuple), PySem.W.mg_of X G a_resolvent, F_resolvent.kp, b_resolvent⟩
  have C__clause_at : Cal l.prog w K mg base "_clause_at" 1 ["clauses", "index"] (spClAt K) := ⟨_, _, ok_clause_at (F := F__clause_at) (m_len := m_len), PySem.W.mg_of X G a__clause_at, F__clause_at.kp, b__clause_at⟩
  have C__derived : Cal l.prog w K mg base "_derived" 2 ["clauses", "before", "line"] (spDer K) := ⟨_, _, ok_derived (F := F__derived) (C__clause_at := C__clause_at) (C_resolvent := C_resolvent), PySem.W.mg_of X G a__derived, F__derived.kp, b__derived⟩
  have C_derive_lines : Cal l.prog w K mg base "derive_lines" 3 ["clauses", "certificate"] (spRun K) := ⟨_, _, ok_run (F := F_derive_lines) (m_tuple := m_tuple) (C__derived := C__derived), PySem.W.mg_of X G a_derive_lines, F_derive_lines.kp, b_derive_lines⟩
  have C__undecided : Cal l.prog w K mg base "_undecided" 1 ["theory", "constraint"] (spUnd K) := ⟨_, _, ok_undecided (F := F__undecided) (m_tuple := m_tuple), PySem.W.mg_of X G a__undecided, F__undecided.kp, b__undecided⟩
  have C__fails : Cal l.prog w K mg base "_fails" 1 ["clause", "decided"] (spFails K) := ⟨_, _, ok_fails (F := F__fails) (m_all := m_all), PySem.W.mg_of X G a__fails, F__fails.kp, b__fails⟩
  have C__solution : Cal l.prog w K mg base "_solution" 7 ["names", "clauses", "decided"] (spSol K 6) := ⟨_, _, ok_solution F__solution m_any C__fails (PySem.W.mg_of X G a__solution) F__solution.kp b__solution 6, PySem.W.mg_of X G a__solution, F__solution.kp, b__solution⟩
  have C__refute : Cal l.prog w K mg base "_refute" 7 ["names", "clauses", "decided", "lines"] (spRef K 6) := ⟨_, _, ok_refute F__refute m_enumerate m_len C__fails C_resolvent (PySem.W.mg_of X G a__refute) F__refute.kp b__refute 6, PySem.W.mg_of X G a__refute, F__refute.kp, b__refute⟩
  have M_counterexample : MthC l.prog w K mg base C "counterexample" 8 ["self", "theory", "constraint"] (spCE K) := ⟨_, _, cl, ⟨a_Mcounterexample, i_Mcounterexample, k_Mcounterexample⟩, ok_counterexample (F := F_Mcounterexample) (C__undecided := C__undecided) (C__solution := C__solution), b_Mcounterexample⟩
  have M_certificate : MthC l.prog w K mg base C "certificate" 9 ["self", "theory", "constraint"] (spCert K C) := ⟨_, _, cl, ⟨a_Mcertificate, i_Mcertificate, k_Mcertificate⟩, ok_certificate (F := F_Mcertificate) (m_list := m_list) (m_tuple := m_tuple) (M_counterexample := M_counterexample) (C__undecided := C__undecided) (C__refute := C__refute), b_Mcertificate⟩
  have M_accepts : MthC l.prog w K mg base C "accepts" 4 ["self", "theory", "constraint", "certificate"] (spAcc K) := ⟨_, _, cl, ⟨a_Maccepts, i_Maccepts, k_Maccepts⟩, ok_accepts (F := F_Maccepts) (C_derive_lines := C_derive_lines) (C_contains := C_contains), b_Maccepts⟩
  have C__law_source : Cal l.prog w K mg base "_law_source" 1 ["_law_script", "_law_k"] (spSource K) := ⟨_, _, ok_source (F := F__law_source) (m_len := m_len) (m_int := m_int), PySem.W.mg_of X G a__law_source, F__law_source.kp, b__law_source⟩
  have C__law_draw : Cal l.prog w K mg base "_law_draw" 1 ["_law_source_here", "_law_limit"] spDraw := ⟨_, _, ok_draw (F := F__law_draw) (m_int := m_int), PySem.W.mg_of X G a__law_draw, F__law_draw.kp, b__law_draw⟩
  have C__law_some : Cal l.prog w K mg base "_law_some" 2 ["_law_source_here", "_law_names", "_law_most"] (spSome K) := ⟨_, _, ok_some (F := F__law_some) (m_len := m_len) (C__law_draw := C__law_draw), PySem.W.mg_of X G a__law_some, F__law_some.kp, b__law_some⟩
  have C__law_is_int : Cal l.prog w K mg base "_law_is_int" 1 ["_law_value"] spIsInt := ⟨_, _, ok_is_int (F := F__law_is_int) (m_isinstance := m_isinstance) (m_int := m_int) (m_bool := m_bool), PySem.W.mg_of X G a__law_is_int, F__law_is_int.kp, b__law_is_int⟩
  have C__law_cut : Cal l.prog w K mg base "_law_cut" 1 ["_law_first", "_law_second", "_law_name"] (spCut K) := ⟨_, _, ok_cut (F := F__law_cut) (m_tuple := m_tuple) (m_sorted := m_sorted), PySem.W.mg_of X G a__law_cut, F__law_cut.kp, b__law_cut⟩
  have C__law_bits_show : Cal l.prog w K mg base "_law_bits_show" 2 ["_law_theory_here", "_law_constraint", "_law_certificate"] (spShow K) := ⟨_, _, ok_show (F := F__law_bits_show) (m_len := m_len) (C__law_cut := C__law_cut), PySem.W.mg_of X G a__law_bits_show, F__law_bits_show.kp, b__law_bits_show⟩
  have C__law_clause : Cal l.prog w K mg base "_law_clause" 2 ["_law_source_here", "_law_names"] (spClause K) := ⟨_, _, ok_clause (F := F__law_clause) (m_len := m_len) (m_tuple := m_tuple) (C__law_draw := C__law_draw), PySem.W.mg_of X G a__law_clause, F__law_clause.kp, b__law_clause⟩
  have C__law_theory : Cal l.prog w K mg base "_law_theory" 3 ["_law_source_here"] (spTheory K) := ⟨_, _, ok_theory (F := F__law_theory) (m_tuple := m_tuple) (m_range := m_range) (C__law_draw := C__law_draw) (C__law_some := C__law_some) (C__law_clause := C__law_clause), PySem.W.mg_of X G a__law_theory, F__law_theory.kp, b__law_theory⟩
  have C__law_derived : Cal l.prog w K mg base "_law_derived" 2 ["_law_source_here", "_law_theory_here"] (spLDer K) := ⟨_, _, ok_lderived (F := F__law_derived) (m_len := m_len) (m_range := m_range) (m_int := m_int) (m_tuple := m_tuple) (C__law_draw := C__law_draw) (C__law_cut := C__law_cut), PySem.W.mg_of X G a__law_derived, F__law_derived.kp, b__law_derived⟩
  have C__law_widened : Cal l.prog w K mg base "_law_widened" 2 ["_law_source_here", "_law_names", "_law_clause_here"] (spWide K) := ⟨_, _, ok_widened (F := F__law_widened) (m_list := m_list) (m_tuple := m_tuple) (m_sorted := m_sorted) (C__law_draw := C__law_draw), PySem.W.mg_of X G a__law_widened, F__law_widened.kp, b__law_widened⟩
  have C__law_narrowed : Cal l.prog w K mg base "_law_narrowed" 2 ["_law_source_here", "_law_clause_here"] (spNarrow K) := ⟨_, _, ok_narrowed (F := F__law_narrowed) (m_len := m_len) (m_list := m_list) (m_tuple := m_tuple) (C__law_draw := C__law_draw), PySem.W.mg_of X G a__law_narrowed, F__law_narrowed.kp, b__law_narrowed⟩
  have C__law_is_entry : Cal l.prog w K mg base "_law_is_entry" 2 ["_law_entry_here"] (spIsEntry K) := ⟨_, _, ok_is_entry (F := F__law_is_entry) (m_len := m_len) (m_isinstance := m_isinstance) (m_tuple := m_tuple) (m_str := m_str) (C__law_is_int := C__law_is_int), PySem.W.mg_of X G a__law_is_entry, F__law_is_entry.kp, b__law_is_entry⟩
  have C__law_is_certificate : Cal l.prog w K mg base "_law_is_certificate" 3 ["_law_certificate"] (spIsCert K) := ⟨_, _, ok_is_certificate (F := F__law_is_certificate) (m_len := m_len) (m_isinstance := m_isinstance) (m_tuple := m_tuple) (C__law_is_entry := C__law_is_entry), PySem.W.mg_of X G a__law_is_certificate, F__law_is_certificate.kp, b__law_is_certificate⟩
  have C__law_index : Cal l.prog w K mg base "_law_index" 2 ["_law_source_here", "_law_index_here", "_law_count"] spIndex := ⟨_, _, ok_index (F := F__law_index) (C__law_draw := C__law_draw), PySem.W.mg_of X G a__law_index, F__law_index.kp, b__law_index⟩
  have C__law_entry : Cal l.prog w K mg base "_law_entry" 3 ["_law_source_here", "_law_names", "_law_entry_here", "_law_at", "_law_count"] (spEntry K) := ⟨_, _, ok_entry (F := F__law_entry) (m_len := m_len) (m_list := m_list) (C__law_draw := C__law_draw) (C__law_index := C__law_index), PySem.W.mg_of X G a__law_entry, F__law_entry.kp, b__law_entry⟩
  have C__law_changed : Cal l.prog w K mg base "_law_changed" 4 ["_law_source_here", "_law_names", "_law_certificate"] (spChg K) := ⟨_, _, ok_changed (F := F__law_changed) (m_len := m_len) (m_list := m_list) (m_tuple := m_tuple) (m_int := m_int) (C__law_draw := C__law_draw) (C__law_entry := C__law_entry), PySem.W.mg_of X G a__law_changed, F__law_changed.kp, b__law_changed⟩
  have C__law_wild : Cal l.prog w K mg base "_law_wild" 2 ["_law_source_here", "_law_names"] (spWild K) := ⟨_, _, ok_wild (F := F__law_wild) (m_len := m_len) (m_list := m_list) (m_tuple := m_tuple) (m_range := m_range) (C__law_draw := C__law_draw), PySem.W.mg_of X G a__law_wild, F__law_wild.kp, b__law_wild⟩
  have C__law_judged : Cal l.prog w K mg base "_law_judged" 5 ["_law_kind", "_law_theory_here", "_law_question", "_law_certificate"] (spJdg K C) := ⟨_, _, ok_judged (F := F__law_judged) (m_isinstance := m_isinstance) (m_bool := m_bool) (M_accepts := M_accepts) (C__law_bits_show := C__law_bits_show), PySem.W.mg_of X G a__law_judged, F__law_judged.kp, b__law_judged⟩
  exact ok_law F_law (m_len := m_len) (m_range := m_range) (m_int := m_int) (B_Bits := B_Bits) (M_certificate := M_certificate) (M_counterexample := M_counterexample) (C__law_source := C__law_source) (C__law_theory := C__law_theory) (C__law_derived := C__law_derived) (C__law_widened := C__law_widened) (C__law_narrowed := C__law_narrowed) (C__law_is_certificate := C__law_is_certificate) (C__law_bits_show := C__law_bits_show) (C__law_changed := C__law_changed) (C__law_wild := C__law_wild) (C__law_judged := C__law_judged)
end K12
open PySem PySem.W PyProof.Rows
set_option maxRecDepth 100000 in
set_option maxHeartbeats 0 in
theorem PySem.Challenge.cw_shadowlinks_k12_cuts_judged_holds : PySem.Challenge.rw_shadowlinks_k12_cuts_judged.Holds := by
  w_on; o_law; k_head; (case hw => w_witness2)
  k_fill
  refine L2.walk_of (l := PySem.Challenge.rw_shadowlinks_k12_cuts_judged) (n := 63) (k := 10) (x := "_law_script") (CX := fun _ => L2.CX0) (sp := fun w => K12.spLaw _) rfl (by decide) rfl ⟨rfl, by decide, by decide⟩ (fun w h Y => PySem.W.kIn_of Y) ?F (fun _ _ a ns hl _ hS => ⟨a, ns, rfl, hS, hl, fun _ => rfl⟩) (fun _ _ _ _ _ h => h)
  case F =>
    intro w mg fa h KX G hmg
    refine' K12.all_mk KX G hmg ?aC ?pg ?hd ?po ?sa ?mk ?kc ?ini ?a_Mcounterexample ?l_Mcounterexample ?c_Mcounterexample ?k_Mcounterexample ?i_Mcounterexample ?a_Mcertificate ?l_Mcertificate ?c_Mcertificate ?k_Mcertificate ?i_Mcertificate ?a_Maccepts ?l_Maccepts ?c_Maccepts ?k_Maccepts ?i_Maccepts ?a_contains ?l_contains ?c_contains ?k_contains ?a_resolvent ?l_resolvent ?c_resolvent ?k_resolvent ?a__clause_at ?l__clause_at ?c__clause_at ?k__clause_at ?a__derived ?l__derived ?c__derived ?k__derived ?a_derive_lines ?l_derive_lines ?c_derive_lines ?k_derive_lines ?a__undecided ?l__undecided ?c__undecided ?k__undecided ?a__fails ?l__fails ?c__fails ?k__fails ?a__solution ?l__solution ?c__solution ?k__solution ?a__refute ?l__refute ?c__refute ?k__refute ?a__law_source ?l__law_source ?c__law_source ?k__law_source ?a__law_draw ?l__law_draw ?c__law_draw ?k__law_draw ?a__law_some ?l__law_some ?c__law_some ?k__law_some ?a__law_is_int ?l__law_is_int ?c__law_is_int ?k__law_is_int ?a__law_cut ?l__law_cut ?c__law_cut ?k__law_cut ?a__law_bits_show ?l__law_bits_show ?c__law_bits_show ?k__law_bits_show ?a__law_clause ?l__law_clause ?c__law_clause ?k__law_clause ?a__law_theory ?l__law_theory ?c__law_theory ?k__law_theory ?a__law_derived ?l__law_derived ?c__law_derived ?k__law_derived ?a__law_widened ?l__law_widened ?c__law_widened ?k__law_widened ?a__law_narrowed ?l__law_narrowed ?c__law_narrowed ?k__law_narrowed ?a__law_is_entry ?l__law_is_entry ?c__law_is_entry ?k__law_is_entry ?a__law_is_certificate ?l__law_is_certificate ?c__law_is_certificate ?k__law_is_certificate ?a__law_index ?l__law_index ?c__law_index ?k__law_index ?a__law_entry ?l__law_entry ?c__law_entry ?k__law_entry ?a__law_changed ?l__law_changed ?c__law_changed ?k__law_changed ?a__law_wild ?l__law_wild ?c__law_wild ?k__law_wild ?a__law_judged ?l__law_judged ?c__law_judged ?k__law_judged ?a_law ?l_law ?c_law ?k_law ?z_all ?z_len ?z_set ?z_sorted ?z_tuple ?z_any ?z_enumerate ?z_list ?z_int ?z_isinstance ?z_bool ?z_range ?z_str
    (case aC => k_is)
    (case pg => k_is)
    (case hd => k_is)
    (case po => k_is)
    (case sa => k_is)
    (case mk => k_is)
    (case kc => k_is)
    (case ini => k_is)
    (case a_Mcounterexample => k_is)
    (case l_Mcounterexample => k_is)
    (case c_Mcounterexample => k_is)
    (case k_Mcounterexample => k_is)
    (case i_Mcounterexample => k_is)
    (case a_Mcertificate => k_is)
    (case l_Mcertificate => k_is)
    (case c_Mcertificate => k_is)
    (case k_Mcertificate => k_is)
    (case i_Mcertificate => k_is)
    (case a_Maccepts => k_is)
    (case l_Maccepts => k_is)
    (case c_Maccepts => k_is)
    (case k_Maccepts => k_is)
    (case i_Maccepts => k_is)
    (case a_contains => k_is)
    (case l_contains => k_is)
    (case c_contains => k_is)
    (case k_contains => k_is)
    (case a_resolvent => k_is)
    (case l_resolvent => k_is)
    (case c_resolvent => k_is)
    (case k_resolvent => k_is)
    (case a__clause_at => k_is)
    (case l__clause_at => k_is)
    (case c__clause_at => k_is)
    (case k__clause_at => k_is)
    (case a__derived => k_is)
    (case l__derived => k_is)
    (case c__derived => k_is)
    (case k__derived => k_is)
    (case a_derive_lines => k_is)
    (case l_derive_lines => k_is)
    (case c_derive_lines => k_is)
    (case k_derive_lines => k_is)
    (case a__undecided => k_is)
    (case l__undecided => k_is)
    (case c__undecided => k_is)
    (case k__undecided => k_is)
    (case a__fails => k_is)
    (case l__fails => k_is)
    (case c__fails => k_is)
    (case k__fails => k_is)
    (case a__solution => k_is)
    (case l__solution => k_is)
    (case c__solution => k_is)
    (case k__solution => k_is)
    (case a__refute => k_is)
    (case l__refute => k_is)
    (case c__refute => k_is)
    (case k__refute => k_is)
    (case a__law_source => k_is)
    (case l__law_source => k_is)
    (case c__law_source => k_is)
    (case k__law_source => k_is)
    (case a__law_draw => k_is)
    (case l__law_draw => k_is)
    (case c__law_draw => k_is)
    (case k__law_draw => k_is)
    (case a__law_some => k_is)
    (case l__law_some => k_is)
    (case c__law_some => k_is)
    (case k__law_some => k_is)
    (case a__law_is_int => k_is)
    (case l__law_is_int => k_is)
    (case c__law_is_int => k_is)
    (case k__law_is_int => k_is)
    (case a__law_cut => k_is)
    (case l__law_cut => k_is)
    (case c__law_cut => k_is)
    (case k__law_cut => k_is)
    (case a__law_bits_show => k_is)
    (case l__law_bits_show => k_is)
    (case c__law_bits_show => k_is)
    (case k__law_bits_show => k_is)
    (case a__law_clause => k_is)
    (case l__law_clause => k_is)
    (case c__law_clause => k_is)
    (case k__law_clause => k_is)
    (case a__law_theory => k_is)
    (case l__law_theory => k_is)
    (case c__law_theory => k_is)
    (case k__law_theory => k_is)
    (case a__law_derived => k_is)
    (case l__law_derived => k_is)
    (case c__law_derived => k_is)
    (case k__law_derived => k_is)
    (case a__law_widened => k_is)
    (case l__law_widened => k_is)
    (case c__law_widened => k_is)
    (case k__law_widened => k_is)
    (case a__law_narrowed => k_is)
    (case l__law_narrowed => k_is)
    (case c__law_narrowed => k_is)
    (case k__law_narrowed => k_is)
    (case a__law_is_entry => k_is)
    (case l__law_is_entry => k_is)
    (case c__law_is_entry => k_is)
    (case k__law_is_entry => k_is)
    (case a__law_is_certificate => k_is)
    (case l__law_is_certificate => k_is)
    (case c__law_is_certificate => k_is)
    (case k__law_is_certificate => k_is)
    (case a__law_index => k_is)
    (case l__law_index => k_is)
    (case c__law_index => k_is)
    (case k__law_index => k_is)
    (case a__law_entry => k_is)
    (case l__law_entry => k_is)
    (case c__law_entry => k_is)
    (case k__law_entry => k_is)
    (case a__law_changed => k_is)
    (case l__law_changed => k_is)
    (case c__law_changed => k_is)
    (case k__law_changed => k_is)
    (case a__law_wild => k_is)
    (case l__law_wild => k_is)
    (case c__law_wild => k_is)
    (case k__law_wild => k_is)
    (case a__law_judged => k_is)
    (case l__law_judged => k_is)
    (case c__law_judged => k_is)
    (case k__law_judged => k_is)
    (case a_law => k_is)
    (case l_law => k_is)
    (case c_law => k_is)
    (case k_law => k_is)
    (case z_all => k_is)
    (case z_len => k_is)
    (case z_set => k_is)
    (case z_sorted => k_is)
    (case z_tuple => k_is)
    (case z_any => k_is)
    (case z_enumerate => k_is)
    (case z_list => k_is)
    (case z_int => k_is)
    (case z_isinstance => k_is)
    (case z_bool => k_is)
    (case z_range => k_is)
    (case z_str => k_is)
#print axioms PySem.Challenge.cw_shadowlinks_k12_cuts_judged_holds
