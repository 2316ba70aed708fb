import PyProof.Rows.All
import Wide.All
import OpenK.AllK
import Wide.FinOn
import HandS.TupSets
import HandS.ExcInit
import HandS.Nested
import KE.KExcSuper
import HandS.ForExc
import PyProof.Rows.SortShellAny
import HandS.SetTxt0
import HandS.ForMost
import HandS.Walk
import HandS.IsInst
import HandS.IterVal
import HandS.Star
import HandS.Deep
import HandS.DictComp
import HandS.Zip
import HandS.ExcField
import HandS.ExcIs
import KE.KExcIs
import HandS.WordsExc
import HandS.FStr
import HandS.Defaults
import HandS.CallSlots
import HandS.Wide
import HandS.Style
import HandS.OwnEq
import HandS.Property
import OpenK.KMeth
import OpenK.KOps
import KE.KOpsOwn
import KE.KOwnIter
import KE.KDictPairs
import HandS.Gcd
import HandS.ClsMeth
import HandS.TupMul
import HandS.SetFor
import HandS.TupAny
import KE.DataFind
import HandS.TryMany
import HandS.OwnIter
import HandS.Iter
import HandS.Comp
import HandS.Dict
import KE.KDictKeyed
import KE.SortData
import KE.KeyNested
import PyProof.SetRoads
import HandS.Strs
import KE.KEqNest
import KE.DataMinMax
import HandS.Rev
import KE.KDictZip
import KE.GoesEnumKw
import KE.GoesEnum
import HandS.CallRecv
import PySem.Challenge.RW_shadowlinks_k21_trees_of_cases
set_option Elab.async false
set_option linter.all false
set_option maxRecDepth 100000

/-! An own exception's __init__ that begins with super().__init__(e), over ValueError. -/
namespace Sup
open PySem PySem.Spec PyProof.Rows L2 NdefX
abbrev vei : String := "ValueError.__init__"
def mwO (u a : Addr) : HO := .ext fun h => h.get? u = some (PySem.W.kxs_mw vei a)
theorem mwO_ok {P : Program} {w : World} {H : Hp} {h : Heap} {u a : Addr} (e : h.get? u = some (PySem.W.kxs_mw vei a)) : ObjOk P w H h u (mwO u a) := ⟨e, ⟨_, e⟩, fun h1 h2 z k => k _ z⟩
theorem mwO_at {P : Program} {w : World} {H : Hp} {h : Heap} {u a : Addr} (hok : HOk P w H h) (e : H u = some (mwO u a)) : h.get? u = some (PySem.W.kxs_mw vei a) := by
  have x : ObjOk P w H h u (.ext fun h => h.get? u = some (PySem.W.kxs_mw vei a)) := hok u _ e
  exact x.1
/-- what the written part says of a def that says super() -/
structure SupF (P : Program) (K : PySem.W.Frag) (mg : Str → Option Value) (env : Env) (sn : Str) (D : Addr) : Prop where
  ks : env.kindOf "super" = some .globalImplicit
  kc : env.kindOf "__class__" = some .free
  fn : ∃ (f : Addr) (oc : Value) (od : Option Addr) (fd : FuncData) (osl : Array (Option Value)) (ar : Arg), env.func = some f ∧ K.lookup f = some ⟨oc, od, .func fd, osl⟩ ∧ (fd.params.posonlyargs ++ fd.params.args).head? = some ar ∧ ar.arg = sn
  co : ∃ (cda : Addr) (ccl : Value) (cdd : Option Addr) (vs : Array Value) (ccs : Array (Option Value)) (file : Str) (tf : Tok), env.code = .ref cda ∧ K.lookup cda = some ⟨ccl, cdd, .fields vs, ccs⟩ ∧ vs[2]? = some (.str file tf) ∧ ((P.main.file : Str) == file) = true
  top : (P.main.scope.names.lookup ("super" : Str)).isSome = false
  ce : ∃ (cc : Addr) (cl : Value) (cld : Option Addr) (csl : Array (Option Value)), env.cells.lookup ("__class__" : Str) = some cc ∧ K.lookup cc = some ⟨cl, cld, .cell (some (.ref D)), csl⟩
  mg : mg "super" = none
  any : PySem.W.nsIn K cStatics "thirdparty.any" = some none
  it : interactive env = false
  ka : env.kindOf sn = some .local
/-- .. and of the class of the object -/
structure SupC (K : PySem.W.Frag) (C D : Addr) : Prop where
  cls : ∃ cd, PySem.W.clsIn K D = some cd
  sub : PySem.W.mroIn K C (.ref D) = some true
  sup : PySem.W.ks_superIn K C D "__init__" = some (some (.builtin vei))
  ve : PySem.W.subIn K (.ref C) (.type "ValueError") = some true
  exc : OexC K C
section
variable {X : Cx} {pins : List (Addr × Obj)} {σ : List (Option V)} {H : Hp} {s : Shared} {self : Str} {D a C : Addr} {body : List Stmt} {p0 p1 p2 pos pos' : Pos} {e : Expr} {te : TE}
theorem ld_super {E : Value → Shared → Prop} {Q : Value → Shared → Prop} (I : Inv X pins σ H s) (S : SupF X.prog X.K X.mg X.env self D) (h : Q (.type "super") s) : wpAny (model X.prog X.w) X.A (loadName X.env "super") Q E s := by
  obtain ⟨mb, h1, h2⟩ := I.mod.blt
  exact PySem.W.ks_loadName_global I.ok.kind S.ks (Calls.loadGlobal_builtin (by rw [I.ok.glob]; exact I.mod.glob.keeps I.bk) S.mg (by rw [I.ok.blt]; exact h1.keeps I.bk) ((h2 _ (by decide)).trans (by rfl)) h)
theorem self_at (I : Inv X pins σ H s) {u : V} (h1 : X.N[0]? = some self) (h2 : σ[0]? = some (some u)) (hk : X.env.kindOf self = some .local) : ∃ m v, s.heap.Ns X.env.locals m ∧ m self = some v ∧ RelV u v := by
  obtain ⟨m, hn, hl⟩ := I.loc
  obtain ⟨v, r, k⟩ := hl 0 self u h1 h2 (.inl hk)
  rcases k with ⟨_, k⟩ | ⟨k, _⟩
  · exact ⟨m, v, hn, k, r⟩
  · rcases k with k | k <;> · rw [hk] at k; cases k
theorem exo_inst {C a : Addr} (T : OexC X.K C) (I : Inv X pins σ H s) (e : H a = some (exo a C none)) : ∃ t1 : Addr, PySem.W.InstAt s.heap a { cls := .ref C, dict := none, data := .fields #[.ref t1, .none, .none, .none, .bool false, .none] } C none := by
  obtain ⟨t1, ho⟩ := exo_at I.hok e
  exact ⟨t1, ho, rfl, rfl, trivial⟩
/-- the wrapper called -/
theorem call_mw {u : Addr} {us : List Value} {Q : Value → Shared → Prop} {E : Value → Shared → Prop} {A : Around} (T : OexC X.K C) (I : Inv X pins σ H s) (eu : H u = some (mwO u a)) (ea : H a = some (exo a C none)) (hl : us.length ≤ sizeLine) (h : ∀ s', Inv X pins σ H s' → Q .none s') :
    wpAny (model X.prog X.w) A (call (.ref u) us) Q E s := by
  obtain ⟨nm, q, N, bs, bm, sn, sub, ab, col, dd, k0, k1, k2, k3, k5, hC, hbm⟩ := T.cls
  obtain ⟨t1, ho⟩ := exo_at I.hok ea
  have hu := mwO_at I.hok eu
  have hCh := I.kIn _ _ hC
  have FB := F.excBase_ValueError
  obtain ⟨hp, g, d, t, os⟩ := s
  refine wpAny_call (codeAny_of_tree ?_)
  show wpAny _ A.in1 (callAny (.ref u) ⟨us, []⟩) _ _ _
  simp only [callAny]
  refine wpAny_bind (wpAny_load hu ?_)
  simp only [PySem.W.kxs_mw, show (Value.type "method-wrapper" == Value.type "method" || Value.type "method-wrapper" == Value.type "builtin_function_or_method" || Value.type "method-wrapper" == Value.type "method-wrapper") = true by decide, if_true]
  refine PySem.W.KFB.if_so (by decide) ?_
  refine wpAny_bind (PySem.W.check_bound_init FB.toExcCallFacts hCh ho rfl ?_)
  refine wpAny_bind (wpAny_pure (wpAny_pure ?_))
  refine ⟨plainId_quiet FB.init.plain _, codeAny_builtin FB.initEntry ?_⟩
  refine PySem.W.exc_init_tree (cls := .ref C) (t0 := t1) (dv := none) (c2 := .none) (c3 := .none) (b4 := .bool false) ho hl fun h' k hx _ => ?_
  have J := I.write (t' := t) (x := a) (e := a) (o := exo a C none) (by rw [ea]; exact True.intro) (.inl rfl) k ⟨_, hx⟩ (exo_ok hx)
  have eu2 : upd H a (exo a C none) = H := by
    funext b
    by_cases hb : b = a
    · rw [hb, upd_same, ea]
    · rw [upd_ne hb]
  rw [eu2] at J
  exact h _ J
theorem sup_stmt {es : List Expr} {pl : Sem Bool} {ta : TA} {G : Hp → Prop} {Q : Flow → Shared → Prop} (I : Inv X pins σ H s) (S : SupF X.prog X.K X.mg X.env self D) (T : SupC X.K C D) (hN : X.N[0]? = some self) (h0 : σ[0]? = some (some (.ref a))) (ea : H a = some (exo a C none)) (ha : PA X (e :: es) ta)
    (h : ∀ u, H u = none → ta σ (upd H u (mwO u a)) fun vs H2 => vs.length ≤ 1000 ∧ H2 u = some (mwO u a) ∧ H2 a = some (exo a C none) ∧ G H2) (hq : ∀ H2 s', Inv X pins σ H2 s' → G H2 → Q .next s')
    (hev : eval (.Call (.Attribute (.Call (.Name "super" p0) [] [] p1) "__init__" p2) (e :: es) [] pos) X.env = (do
      let ov ← attributeBase (.Call (.Name "super" p0) [] [] p1) "__init__" X.env (eval (.Call (.Name "super" p0) [] [] p1) X.env)
      standAt p2.atName
      let (f, first) ← holding [ov] (getMethod ov "__init__" pl)
      callWith pos f first (backTo pos (starEach (e :: es) X.env)) []) := by rfl)
    (he : starEach (e :: es) X.env = (false, eval e X.env) :: starEach es X.env := by rfl) (hpl : (backTo pos (starEach es X.env)).any (·.1) = false := by rfl) :
    _root_.PySem.wpAt (model X.prog X.w) X.A (.func body X.env) (exec (.Expr (.Call (.Attribute (.Call (.Name "super" p0) [] [] p1) "__init__" p2) (e :: es) [] pos) pos') X.env) Q X.xe s := by
  refine ks_wpAt_Expr_any ?_ S.it
  refine ks_wpAt_MethodCall ?_ hev
  obtain ⟨f, oc, od, fd, osl, ar, hfu, lf, hp, har⟩ := S.fn
  obtain ⟨cda, ccl, cdd, vs, ccs, file, tf, hco, lc, hvs, hfile⟩ := S.co
  obtain ⟨cc, cl, cld, csl, hcl, lcc⟩ := S.ce
  obtain ⟨m, v, hn, hv, rv⟩ := self_at I hN h0 S.ka
  obtain rfl : v = Value.ref a := rv
  obtain ⟨t1, inst⟩ := exo_inst T.exc I ea
  obtain ⟨cdD, hD⟩ := T.cls
  have XK := I.kIn
  obtain ⟨oD, hD1, hD2⟩ : ∃ oD, s.heap.get? D = some oD ∧ oD.data = .cls cdD := by
    unfold PySem.W.clsIn at hD
    split at hD
    · rename_i c d cd' sl ho
      cases hD
      exact ⟨_, XK _ _ ho, rfl⟩
    · cases hD
  refine ks_wpAt_super_base S.ks S.kc (by decide) hfu (XK _ _ lf) rfl hp hco (XK _ _ lc) rfl hvs hfile S.top ?_
  refine ld_super I S ⟨rfl, ?_⟩
  refine wpAny_loadName_free I.ok.kind S.kc hcl ⟨_, XK _ _ lcc, rfl⟩ ?_
  refine wpAny_loadName_local I.ok.kind (har ▸ S.ka) hn (har ▸ hv) ?_
  refine ks_wpAny_isType_cls hD1 hD2 ⟨rfl, ?_⟩
  obtain ⟨hp0, g, d, t, os⟩ := s
  refine ks_wpAny_call_super hD1 hD2 inst.at_ rfl (fun c e => by cases e) (PySem.W.looks_mroIn XK T.sub) fun h' eso k => ?_
  have I2 : Inv X pins σ H ⟨h', g, d, t, os⟩ := I.kept (t' := t) k
  have XK2 := I2.kIn
  have sup := T.sup
  unfold PySem.W.ks_superIn at sup
  cases hc : PySem.W.clsIn X.K C with
  | none =>
    rw [hc] at sup
    cases sup
  | some cd =>
    rw [hc] at sup
    obtain ⟨t2, inst2⟩ := exo_inst T.exc I2 ea
    refine PySem.W.kxs_getMethod PySem.W.kxs_ValueError eso (PySem.W.looks_opaque XK2 S.any) (l₀ := cd.mro) ?_ rfl XK2 sup (inst2.type.andThen (PySem.W.looks_subIn XK2 T.ve)) (PySem.W.ks_ne XK2 inst2 hc) (by decide) ?_
    · exact fun A Q E s k q => wpAny_bind ((PySem.W.looks_clsIn XK2 hc) A _ E s k (wpAny_pure q))
    · have hnu : H h'.objs.size = none := I2.hok.fresh (Nat.le_refl _)
      have gu : (h'.push (PySem.W.kxs_mw vei a)).get? h'.objs.size = some (PySem.W.kxs_mw vei a) := Heap.get?_push_at rfl rfl
      have I3 : Inv X pins σ (upd H h'.objs.size (mwO h'.objs.size a)) ⟨h'.push (PySem.W.kxs_mw vei a), g, d, t + 1, os⟩ :=
        I2.laid (t' := t + 1) (fun b o e => Heap.get?_push_of_some _ e) (Nat.le_refl _) (mwO_ok gu)
      show wpAny _ _ (callWith pos (.ref h'.objs.size) [] (backTo pos (starEach (e :: es) X.env)) []) _ _ _
      have run := ha.run pos pins _ σ _ _ I3 (h _ hnu)
      rw [he] at run ⊢
      refine PySem.W.kxs_callWith (i := vei) (x := a) (by show (false || (backTo pos (starEach es X.env)).any (·.1)) = false; rw [hpl]; rfl) ?_
      refine Calls.evalArgs_plain (thn run fun us s1 ⟨vs, H1, I1, r1, hz, eu, ea1, hG⟩ => ⟨mwO_at I1.hok eu, ?_⟩)
      exact call_mw T.exc I1 eu ea1 (by show us.length ≤ _; rw [← Paired.length r1, sizeLine_eq]; omega) fun s' J => hq H1 s' J hG
end
section
variable {CX : CXT} {P : Program} {w : World} {K : PySem.W.Frag} {mg : Str → Option Value} {base : Heap} {k : Nat} {F : NF} {f cc D : Addr} {kV doc pm ct oc : Value} {an od : Option Addr} {osl : Array (Option Value)} {N ps : List Str} {sp : Sp} {self : Str} {e : Expr} {es : List Expr} {p0 p1 p2 pos pos' : Pos} {rest : List Stmt} {pl : Sem Bool}
theorem fn_sup (lk : K.lookup f = some ⟨oc, od, .func (PySem.W.fnX F.name F.qual F.params F.body F.scope F.cl .none kV doc pm an (.ref F.c) ct), osl⟩) (hcd : PySem.W.codeIn K (.ref F.c) F.qual = true) (hcl : F.cl = [(("__class__" : Str), cc)])
    (hcc : ∃ cl cld csl, K.lookup cc = some ⟨cl, cld, .cell (some (.ref D)), csl⟩) (S : NScope N ps ["__class__"] F.scope) (hF : ∀ L, SupF P K mg (envF F f L) self D) (hN : N[0]? = some self)
    (hbd : F.body = .Expr (.Call (.Attribute (.Call (.Name "super" p0) [] [] p1) "__init__" p2) (e :: es) [] pos) pos' :: rest)
    (len : ∀ vs H Q E, sp vs H Q E → vs.length = ps.length)
    (hbody : ∀ (A : Around) (outer : List Env) (s : Shared) (H : Hp) (vs : List V) (Q : VK) (E : XK), Room k (A.deeper (envF F f s.heap.objs.size)) → sp vs H Q E →
      ∃ (a C : Addr) (ta : TA) (t : TS), SupC K C D ∧ (startF N vs [none])[0]? = some (some (.ref a)) ∧ H a = some (exo a C none) ∧ PA (ncx CX P w K mg base N F f A outer s H E) (e :: es) ta ∧ PSs (ncx CX P w K mg base N F f A outer s H E) rest t ∧
        ∀ u, H u = none → ta (startF N vs [none]) (upd H u (mwO u a)) fun vs' H2 => vs'.length ≤ 1000 ∧ H2 u = some (mwO u a) ∧ H2 a = some (exo a C none) ∧ t { nx := fun _ H' => Q .non H', rt := Q } (startF N vs [none]) H2)
    (hev : ∀ L, eval (.Call (.Attribute (.Call (.Name "super" p0) [] [] p1) "__init__" p2) (e :: es) [] pos) (envF F f L) = (do
      let ov ← attributeBase (.Call (.Name "super" p0) [] [] p1) "__init__" (envF F f L) (eval (.Call (.Name "super" p0) [] [] p1) (envF F f L))
      standAt p2.atName
      let (g, first) ← holding [ov] (getMethod ov "__init__" pl)
      callWith pos g first (backTo pos (starEach (e :: es) (envF F f L))) []) := by intro L; rfl)
    (he : ∀ L, starEach (e :: es) (envF F f L) = (false, eval e (envF F f L)) :: starEach es (envF F f L) := by intro L; rfl) (hpl : ∀ L, (backTo pos (starEach es (envF F f L))).any (·.1) = false := by intro L; rfl) :
    FnOk P w K mg base CX (k + 1) f (PySem.W.fnX F.name F.qual F.params F.body F.scope F.cl .none kV doc pm an (.ref F.c) ct) ps sp := by
  refine ⟨len, fun A outer s H args us vs Q E hr e0 hb r hsp => ?_⟩
  have hl := len _ _ _ _ hsp
  have KX : K.In s.heap := e0.mod.kin.keeps fun b o e => (e0.bs b o e).1
  have lim : s.heap.NoLimit := e0.mod.nolimit.keeps fun b o e => (e0.bs b o e).1
  obtain ⟨cl, cld, csl, hcc⟩ := hcc
  have C : CellsAt F.cl ["__class__"] [none] s.heap H := by
    have one : ∀ {y : Str} {c : Addr}, F.cl.lookup y = some c → y = "__class__" ∧ c = cc := fun {y c} e => by
      rw [hcl] at e
      by_cases h : y = ("__class__" : Str)
      · subst h
        have e2 : some cc = some c := e
        exact ⟨rfl, (Option.some.inj e2).symm⟩
      · have h2 : (y == ("__class__" : Str)) = false := by simpa using h
        rw [List.lookup_cons, h2] at e
        cases e
    refine ⟨rfl, fun y c e => ?_, fun x y c e1 e2 => (one e1).1.trans (one e2).1.symm, fun i y hi => ?_⟩
    · rw [(one e).2]
      exact ⟨(e0.bs _ _ (e0.mod.kin _ _ hcc)).2, _, ⟨_, KX _ _ hcc, rfl⟩⟩
    · cases i with
      | zero =>
        have e : ("__class__" : Str) = y := Option.some.inj hi
        refine ⟨cc, by rw [hcl, ← e]; rfl, fun v hv => ?_⟩
        cases hv
      | succ i => cases hi
  refine ks_codeAny_call_defAt hr.depth (KX _ _ lk) rfl lim (PySem.W.codeRec_of KX hcd) rfl hb S.nocell (fun ⟨n, v⟩ hy => S.par n (List.of_mem_zip hy).1) (fun h₁ hns kp => ?_) S.co S.gen S.kind
  show _root_.PySem.wpAt (model P w) (A.deeper (envF F f s.heap.objs.size)) (.func F.body (envF F f s.heap.objs.size)) (execs F.body (envF F f s.heap.objs.size)) _ _ _
  obtain ⟨a, Ca, ta, t, hC, h0, ea, pa, ps', hq⟩ := hbody A outer s H vs Q E (hr.deeper _) hsp
  have I : Inv (ncx CX P w K mg base N F f A outer s H E) [] (startF N vs [none]) H { s with heap := h₁, toks := s.toks + (ps.zip us).length } := inv_startN S hr.hd e0 hl r C hns kp
  have fin : ∀ {s' : Shared} {σ' : L2.St} {H' : Hp} {v : V} {u : Value}, Inv (ncx CX P w K mg base N F f A outer s H E) [] σ' H' s' → L2.RelV v u → Q v H' → CE outer P w H s Q u s' :=
    fun {s' σ' H' v u} J rv q => ⟨v, H', J.os, J.bare, J.base, J.hok, rv, q⟩
  have main : ∀ (body : List Stmt), _root_.PySem.wpAt (model P w) (A.deeper (envF F f s.heap.objs.size)) (.func body (envF F f s.heap.objs.size)) (execs (.Expr (.Call (.Attribute (.Call (.Name "super" p0) [] [] p1) "__init__" p2) (e :: es) [] pos) pos' :: rest) (envF F f s.heap.objs.size))
      (fun fl s' => CR CX outer P w H s Q E (.ok (.ret (match fl with | .ret v => v | _ => .none))) s') (ncx CX P w K mg base N F f A outer s H E).xe { s with heap := h₁, toks := s.toks + (ps.zip us).length } := by
    intro body
    refine ks_wpAt_execs_cons ?_
    refine sup_stmt (X := ncx CX P w K mg base N F f A outer s H E) (body := body) (G := fun H2 => t { nx := fun _ H' => Q .non H', rt := Q } (startF N vs [none]) H2) I (hF _) hC hN h0 ea pa hq (fun H2 s' J hG => ?_) (hev _) (he _) (hpl _)
    refine wpAt_of_wpAny ?_
    refine wpAny_mono (ps'.run [] s' (startF N vs [none]) H2 _ J hG) (fun fl s' hs => ?_) fun e s' hs => hs
    cases fl with
    | ret u =>
      obtain ⟨v, σ', H', J, rv, q⟩ := hs
      exact fin J rv q
    | next =>
      obtain ⟨σ', H', J, q⟩ := hs
      exact fin (v := V.non) (u := Value.none) J rfl q
    | brk =>
      obtain ⟨_, _, _, q⟩ := hs
      exact False.elim q
    | cont =>
      obtain ⟨_, _, _, q⟩ := hs
      exact False.elim q
  have m2 := main F.body
  rw [← hbd] at m2
  exact m2
end
end Sup
/-! Sets of texts, made of a list or a tuple, and sorted: any texts, in whatever order the world walks them. -/
namespace Sx
open PySem PySem.Spec PyProof.Rows L2 PySem.Froz

/-! ### lists -/
/-- a list without twins whose members all stand in a list of the same length is that list in another order -/
theorem perm_of_sub : ∀ (l ks : List Str), l.Nodup → (∀ x, x ∈ l → x ∈ ks) → ks.length = l.length → l.Perm ks
  | [], ks, _, _, e => by
    have z : ks = [] := List.length_eq_zero_iff.mp e
    rw [z]
  | x :: l, ks, nd, sub, e => by
    obtain ⟨hx, nd'⟩ := List.nodup_cons.mp nd
    have hm : x ∈ ks := sub x List.mem_cons_self
    have p := List.perm_cons_erase hm
    have hl : (ks.erase x).length = l.length := by
      have q := p.length_eq
      simp only [List.length_cons] at q e
      omega
    refine ((perm_of_sub l (ks.erase x) nd' (fun y hy => ?_) hl).cons x).trans p.symm
    have hne : y ≠ x := fun z => hx (z ▸ hy)
    exact (List.mem_erase_of_ne hne).mpr (sub y (List.mem_cons_of_mem _ hy))

/-! ### the payload behind an add -/
theorem tail_ris {ep : Nat} {es : Array (Int × Value)} {t : SetTable} {d : Bool} (r : Ris t.place.toList) : Ris (tailTx ep es t d).2.2.place.toList := by
  unfold tailTx
  split
  · exact relayAll_ris t es _
  · exact r
theorem tail_led {ep : Nat} {es : Array (Int × Value)} {t : SetTable} {d : Bool} : (tailTx ep es t d).2.2.led = t.led := by
  unfold tailTx
  split
  · exact relayAll_led t es _
  · rfl
theorem add_ris {D : SD} (h : Int) (v : Value) (r : Ris D.2.2.place.toList) : Ris (addTx h v D).2.2.place.toList := by
  have r1 := layNew_ris D.2.2 D.1 h v r
  unfold addTx
  apply tail_ris
  split
  · exact r1
  · exact r1
theorem add_led {D : SD} (h : Int) (v : Value) : (addTx h v D).2.2.led = D.2.2.led := by
  have r1 := layNew_led D.2.2 D.1 h v
  unfold addTx
  rw [tail_led]
  split
  · exact r1
  · exact r1

/-- the set of the texts l stands at a -/
def SetX (P : Program) (w : World) (h : Heap) (a : Addr) (l : List Str) : Prop :=
  ∃ D : SD, h.get? a = some (sObj "set" D) ∧ TxOk P w D l ∧ l.Nodup ∧ Ris D.2.2.place.toList ∧ (w.params.followText "set-order" = true ∨ D.2.2.led = true)

section
variable {P : Program} {w : World} {A : Around} {E : Value → Shared → Prop} {s : Shared}

theorem SetX.at {h h' : Heap} {a : Addr} {l : List Str} (R : SetX P w h a l) (k : ∀ o, h.get? a = some o → h'.get? a = some o) : SetX P w h' a l := by
  obtain ⟨D, ho, r⟩ := R
  exact ⟨D, k _ ho, r⟩
theorem setX_fresh {h : Heap} {a : Addr} (ho : h.get? a = some { cls := .type "set", dict := none, data := .set #[] 0 (.fresh 0 0 (!w.params.followText "set-order")) }) : SetX P w h a [] := by
  refine ⟨(#[], 0, .fresh 0 0 (!w.params.followText "set-order")), ho, TxOk.nil rfl, List.nodup_nil, List.Pairwise.nil, ?_⟩
  show _ ∨ (!w.params.followText "set-order") = true
  cases w.params.followText "set-order"
  · exact .inr rfl
  · exact .inl rfl

/-- one text more, new or there already -/
theorem add_any {a : Addr} {l : List Str} {k : Str} {u : Tok} {Q : Bool → Shared → Prop} (R : SetX P w s.heap a l) (hb : l.length + 1 < scanBound)
    (hQ : ∀ b h' l', Heap.SameBut a s.heap h' → SetX P w h' a l' → (∀ x, x ∈ l' ↔ x = k ∨ x ∈ l) → l'.length ≤ l.length + 1 → Q b { s with heap := h' }) :
    wpAny (model P w) A (setAddHashed a (.str k u) (hashStr w k)) Q E s := by
  obtain ⟨D, ho, F, nd, r, hl⟩ := R
  rcases Classical.em (k ∈ l) with hk | hk
  · obtain ⟨es, ep, t⟩ := D
    have hd : (sObj "set" (es, ep, t)).data = .set es ep t := rfl
    have hf : t.fits es.size = true := F.fit
    have hel : ElemsOf (PySem.strKind P w) es.toList := F.el
    have hb0 : es.size < scanBound := by
      have z : es.size = l.length := F.sz
      omega
    have hkey : (PySem.strKind P w).is k (.str k u) = true := is_str k u
    unfold setAddHashed setAddHashedIn
    refine wpAny_holding (wpAny_bind (wpAny_setState_of ho hd hf ?_))
    dsimp only
    rw [byScan_of rfl hb0 hel]
    simp only [↓reduceIte]
    unfold setAddByScan
    refine wpAny_bind ?_
    refine wpAny_bind (wpAny_rule ?_)
    refine wpAny_bind (wpAny_setScan_of (knd := PySem.strKind P w) (k := k) hkey ho hd hf hel ?_)
    cases hfi : List.findIdx? (fun e => (PySem.strKind P w).is k e.2) es.toList with
    | none =>
      obtain ⟨e, he, q⟩ := (F.mem k).mp hk
      have c := List.findIdx?_eq_none_iff.mp hfi e he
      rw [q] at c
      cases c
    | some j =>
      dsimp only
      refine wpAny_pure (wpAny_pure ?_)
      exact hQ _ s.heap l (Heap.SameBut.refl a s.heap) ⟨(es, ep, t), ho, F, nd, r, hl⟩ (fun x => ⟨.inr, fun z => z.elim (fun e => e ▸ hk) id⟩) (Nat.le_succ _)
  · refine add_x ho F hk hb (hQ _ _ (k :: l) (Heap.SameBut.update s.heap a _) ⟨_, get_upd _ ho rfl, add_ok u F, List.nodup_cons.mpr ⟨hk, nd⟩, add_ris _ _ r, ?_⟩ (fun x => List.mem_cons) (Nat.le_refl _))
    exact hl.imp id fun z => by
      rw [add_led]
      exact z
end

/-! ### set(xs): the loop -/
section
variable {P : Program} {w : World} {A : Around} {R : Result → Shared → Prop} {I : Addr} {fp wr : List Addr} {G : Array GenState → Array GenState → Prop} {n : Nat} {Pv : Nat → Value → Prop} {St : Nat → Shared → Prop}
theorem fill_loop (W : WalksS P w A.in1 I fp wr G n Pv St) (S : Addr) (hSf : S ∉ fp) (xs : List Str) (hn : xs.length = n) (hval : ∀ i v, Pv i v → ∃ t, v = .str (xs.getD i Str.empty) t) (hb : n + 1 < scanBound) :
    ∀ (k i : Nat) (s : Shared) (l : List Str), n - i = k → i ≤ n → St i s → SetX P w s.heap S l → (∀ x, x ∈ l ↔ x ∈ xs.take i) → l.length ≤ i →
      (∀ s' l', Moved (S :: wr) G s s' → SetX P w s'.heap S l' → (∀ x, x ∈ l' ↔ x ∈ xs) → l'.length ≤ n → R (.ok (.ret .none)) s') →
      codeAny (model P w) A (.builtin "set.update.loop" ⟨[.ref S, .ref I], []⟩) R s := by
  have hSw : S ∉ wr := fun h => hSf (W.sub _ h)
  have hsub : ∀ b ∈ wr, b ∈ S :: wr := fun b hb => List.mem_cons_of_mem _ hb
  intro k
  induction k with
  | zero =>
    intro i s l hk hi hst hS hm hlen hR
    have hin : i = n := by omega
    subst hin
    refine codeAny_builtin PyProof.Rows.F.entry_set_update_loop ?_
    rw [Around.under_plainId PyProof.Rows.F.plain_set_update_loop _]
    show wpAny _ A.in1 (pyNext (.ref I) >>= _) _ _ s
    refine wpAny_bind (W.done s _ _ hst fun s' hmv => ?_)
    show wpAny _ A.in1 (ret Value.none) _ _ s'
    refine wpAny_pure (hR s' l (hmv.mono hsub) (hS.at fun o e => hmv.heap S o hSw e) (fun x => ?_) hlen)
    rw [hm x, ← hn, List.take_length]
  | succ k ih =>
    intro i s l hk hi hst hS hm hlen hR
    have hlt : i < n := by omega
    refine codeAny_builtin PyProof.Rows.F.entry_set_update_loop ?_
    rw [Around.under_plainId PyProof.Rows.F.plain_set_update_loop _]
    show wpAny _ A.in1 (pyNext (.ref I) >>= _) _ _ s
    refine wpAny_bind (W.item i s _ _ hlt hst fun v s' hP hst' hmv => ?_)
    obtain ⟨t, rfl⟩ := hval i v hP
    have hS' : SetX P w s'.heap S l := hS.at fun o e => hmv.heap S o hSw e
    show wpAny _ A.in1 (holding [Value.str (xs.getD i Str.empty) t] (setAdd S (.str (xs.getD i Str.empty) t)) >>= _) _ _ s'
    refine wpAny_bind (wpAny_holding ?_)
    unfold setAdd
    refine wpAny_holding ?_
    refine wpAny_bind ((PySem.strKind P w).pyHash (k := xs.getD i Str.empty) (strKind_is _ _ _ _) ?_)
    have hroom : l.length + 1 < scanBound := by omega
    refine add_any (s := { s' with toks := s'.toks + 1 }) hS' hroom fun b h' l' hsb hS2 hm2 hl2 => ?_
    have hix : i < xs.length := by omega
    have eg : xs.getD i Str.empty = xs[i] := by
      rw [List.getD_eq_getElem?_getD, List.getElem?_eq_getElem hix]
      rfl
    have hm3 : ∀ x, x ∈ l' ↔ x ∈ xs.take (i + 1) := fun x => by
      rw [hm2 x, List.take_succ, List.getElem?_eq_getElem hix, eg]
      show _ ↔ x ∈ xs.take i ++ [xs[i]]
      rw [List.mem_append, List.mem_singleton, hm x]
      exact Or.comm
    refine wpAny_pure ⟨plainId_quiet PyProof.Rows.F.plain_set_update_loop _, ih (i + 1) _ l' (by omega) hlt (W.frame _ s' _ _ hst' (Nat.le_succ _) fun b hb o e => ?_) hS2 hm3 (by omega) fun s'' l'' hmv'' hS'' hm'' hl'' => ?_⟩
    · rw [hsb.2 b (fun h : b = S => hSf (by rw [← h]; exact hb))]
      exact e
    · refine hR s'' l'' (Moved.trans W.gtrans ((hmv.mono hsub).then_heap (Nat.le_succ _) fun b o hb e => ?_) hmv'') hS'' hm'' hl''
      rw [hsb.2 b (fun h : b = S => hb (by rw [h]; exact List.mem_cons_self))]
      exact e
end

/-! ### set(xs): the call -/
section
variable {P : Program} {w : World} {A : Around} {E : Value → Shared → Prop} {s : Shared}
abbrev emptyObj (w : World) : Obj := { cls := .type "set", dict := none, data := .set #[] 0 (.fresh 0 0 (!w.params.followText "set-order")) }
theorem str_at {us : List Value} {xs : List Str} (h : StrsAre us xs) : ∀ (i : Nat) (v : Value), us[i]? = some v → ∃ t, v = .str (xs.getD i Str.empty) t := by
  induction h with
  | nil =>
    intro i v e
    cases e
  | cons y t h ih =>
    intro i v e
    cases i with
    | zero =>
      have q : Value.str y t = v := Option.some.inj e
      exact ⟨t, q.symm⟩
    | succ i => exact ih i v e

set_option maxRecDepth 100000 in
set_option maxHeartbeats 4000000 in
/-- set(xs), xs a list or a tuple of texts -/
theorem call_set {l : Addr} {items : Array Value} {xs : List Str} {Q : Value → Shared → Prop} (hh : A.handled = none) (hl : s.heap.IsList l items ∨ s.heap.IsTuple l items) (hi : StrsAre items.toList xs) (hb : xs.length + 1 < scanBound)
    (h : ∀ (h' : Heap) (tk : Nat) (ys : List Str), SetX P w h' s.heap.objs.size ys → (∀ x, x ∈ ys ↔ x ∈ xs) → ys.length ≤ xs.length → (∀ b o, s.heap.get? b = some o → h'.get? b = some o) → Q (.ref s.heap.objs.size) { s with heap := h', toks := tk }) :
    wpAny (model P w) A (call (.type "set") [.ref l]) Q E s := by
  have hisz : xs.length = items.size := by rw [← StrsAre.len_eq hi, Array.length_toList]
  have hval : ∀ (i : Nat) (v : Value), items[i]? = some v → ∃ t, v = .str (xs.getD i Str.empty) t := fun i v hv => str_at hi i v (by rw [Array.getElem?_toList]; exact hv)
  obtain ⟨c, tl, hmro⟩ := PySem.F.called_set.mro
  have hmade := PySem.F.called_set.made
  have hsub := PySem.F.called_set.sub
  refine wpAny_call (codeAny_of_tree ?_)
  show wpAny _ _ (callAny (.type "set") _) _ _ _
  refine wpAny_pure ⟨Code.quiet_builtin _ (by decide +kernel), codeAny_builtin PySem.F.entry_type_call ?_⟩
  rw [Around.under_plain (weight_type_call_type "set" [.ref l] []) rfl]
  have h1 := PySem.F.called_set.notType
  have h2 := PySem.F.called_set.canCreate
  have hct := PySem.F.typeCall_set_1 (.ref l)
  repeat (any_goals (first | assumption | wp_step))
  refine codeAny_mono (code_set_led1 (.ref l) (E := E) (Q₁ := fun obj s₁ => obj = .ref s.heap.objs.size ∧ s₁ = { s with heap := s.heap.push (emptyObj w) }) ⟨rfl, rfl⟩) fun r s₁ hr => ?_
  cases r with
  | error e => exact hr
  | ok fl =>
    cases fl with
    | ret obj =>
      obtain ⟨rfl, rfl⟩ := hr
      have hS : (s.heap.push (emptyObj w)).get? s.heap.objs.size = some (emptyObj w) := Heap.get?_push_size _ rfl
      have hT : Shared.TypeIs { s with heap := s.heap.push (emptyObj w) } (.ref s.heap.objs.size) "set" := ⟨_, hS, rfl⟩
      have hli := PySem.F.called_set.init.lookup
      have hbi := PySem.F.called_set.init.bind (.ref s.heap.objs.size)
      repeat (any_goals (first | assumption | wp_step))
      refine codeAny_mono (codeAny_call_builtin (R := wants (fun r s₂ => r = .none ∧ ∃ h' tk ys, s₂ = { s with heap := h', toks := tk } ∧ SetX P w h' s.heap.objs.size ys ∧ (∀ x, x ∈ ys ↔ x ∈ xs) ∧ ys.length ≤ xs.length ∧
          (∀ b o, s.heap.get? b = some o → h'.get? b = some o)) E) PySem.F.called_set.init.plain PySem.F.entry_set_init (check_set_init_1 hT ?_)) fun r₂ s₂ hr₂ => ?_
      · have hh3 : A.in1.in1.in1.handled = none := by simp [hh]
        have hz1 : (s.heap.push (emptyObj w)).objs.size = s.heap.objs.size + 1 := Heap.size_push ..
        rcases hl with hl | hl
        · obtain ⟨ol, hol, hcl, nl, hdl⟩ := hl
          obtain ⟨ocls, odict, odata, oslots⟩ := ol
          simp only at hcl hdl
          subst hcl; subst hdl
          have hol' : (s.heap.push (emptyObj w)).get? l = some { cls := .type "list", dict := odict, data := .seq items nl, slots := oslots } := Heap.get?_push_of_some _ hol
          have hsls := PySem.F.sub_list_set
          have hslf := PySem.F.sub_list_frozenset
          have hne : (Value.type "list" == Value.type "dict") = false := by decide
          have hl1 : (s.heap.push (emptyObj w)).IsList l items := ⟨_, hol', rfl, nl, rfl⟩
          unfold Builtin.«set.__init__» noKeywords Builtin.Frozenset.updateFrom
          generalize hPI : pyIter = PI
          wp_walk
          subst hPI
          refine wpAny_pyIter_list hl1 ?_
          refine wpAny_bind (wpAny_runValue ?_)
          have hlS : l < s.heap.objs.size := Heap.lt_size hol
          have hneI : l ≠ (s.heap.push (emptyObj w)).objs.size := by
            rw [hz1]
            exact Nat.ne_of_lt (Nat.lt_succ_of_lt hlS)
          have hSf : s.heap.objs.size ∉ [(s.heap.push (emptyObj w)).objs.size, l] := by
            simp only [List.mem_cons, List.mem_singleton, List.not_mem_nil, or_false, not_or]
            rw [hz1]
            exact ⟨Nat.ne_of_lt (Nat.lt_succ_self _), Nat.ne_of_gt hlS⟩
          have hget : ((s.heap.push (emptyObj w)).push { cls := .type "list_iterator", data := .fields #[.ref l, .int 0 0] }).get? s.heap.objs.size = some (emptyObj w) := Heap.get?_push_of_some _ hS
          refine fill_loop ((Walks.list hh3 _ l hneI items).toS) s.heap.objs.size hSf xs hisz hval (by omega) (items.size - 0) 0 _ [] (by omega) (Nat.zero_le _)
            ⟨⟨_, Heap.get?_push_size _ rfl, rfl, rfl⟩, (hl1.push _)⟩ (setX_fresh hget) (fun x => Iff.rfl) (Nat.le_refl _) ?hR
          case hR =>
            intro s' ys hm hS' hmm hlen
            obtain ⟨h', g', d', tk', os'⟩ := s'
            have eg : g' = s.gens := hm.gens
            have ed : d' = s.drawn := hm.drawn
            have eo : os' = s.os := hm.os
            subst eg; subst ed; subst eo
            show wpAny _ _ _ _ _ _
            refine wpAny_pure ?_
            show wpAny _ _ (ret Value.none) _ _ _
            refine wpAny_pure ⟨rfl, h', tk', ys, rfl, hS', hmm, by omega, fun b o e => ?_⟩
            have hb0 : b < s.heap.objs.size := Heap.lt_size e
            refine hm.heap b o ?_ (Heap.get?_push_of_some _ (Heap.get?_push_of_some _ e))
            simp only [List.mem_cons, List.mem_singleton, List.not_mem_nil, or_false, not_or]
            rw [hz1]
            exact ⟨Nat.ne_of_lt hb0, Nat.ne_of_lt (Nat.lt_succ_of_lt hb0)⟩
        · obtain ⟨ol, hol, hcl, nl, hdl⟩ := hl
          obtain ⟨ocls, odict, odata, oslots⟩ := ol
          simp only at hcl hdl
          subst hcl; subst hdl
          have hol' : (s.heap.push (emptyObj w)).get? l = some { cls := .type "tuple", dict := odict, data := .seq items nl, slots := oslots } := Heap.get?_push_of_some _ hol
          have hsls := PySem.F.sub_tuple_set
          have hslf := PySem.F.sub_tuple_frozenset
          have hne : (Value.type "tuple" == Value.type "dict") = false := by decide
          have hl1 : (s.heap.push (emptyObj w)).IsTuple l items := ⟨_, hol', rfl, nl, rfl⟩
          unfold Builtin.«set.__init__» noKeywords Builtin.Frozenset.updateFrom
          generalize hPI : pyIter = PI
          wp_walk
          subst hPI
          refine wpAny_pyIter_tuple hl1 ?_
          refine wpAny_bind (wpAny_runValue ?_)
          have hlS : l < s.heap.objs.size := Heap.lt_size hol
          have hneI : l ≠ (s.heap.push (emptyObj w)).objs.size := by
            rw [hz1]
            exact Nat.ne_of_lt (Nat.lt_succ_of_lt hlS)
          have hSf : s.heap.objs.size ∉ [(s.heap.push (emptyObj w)).objs.size, l] := by
            simp only [List.mem_cons, List.mem_singleton, List.not_mem_nil, or_false, not_or]
            rw [hz1]
            exact ⟨Nat.ne_of_lt (Nat.lt_succ_self _), Nat.ne_of_gt hlS⟩
          have hget : ((s.heap.push (emptyObj w)).push { cls := .type "tuple_iterator", data := .fields #[.ref l, .int 0 0] }).get? s.heap.objs.size = some (emptyObj w) := Heap.get?_push_of_some _ hS
          refine fill_loop ((Walks.tuple hh3 _ l hneI items).toS) s.heap.objs.size hSf xs hisz hval (by omega) (items.size - 0) 0 _ [] (by omega) (Nat.zero_le _)
            ⟨⟨_, Heap.get?_push_size _ rfl, rfl, rfl⟩, (hl1.push _)⟩ (setX_fresh hget) (fun x => Iff.rfl) (Nat.le_refl _) ?hR
          case hR =>
            intro s' ys hm hS' hmm hlen
            obtain ⟨h', g', d', tk', os'⟩ := s'
            have eg : g' = s.gens := hm.gens
            have ed : d' = s.drawn := hm.drawn
            have eo : os' = s.os := hm.os
            subst eg; subst ed; subst eo
            show wpAny _ _ _ _ _ _
            refine wpAny_pure ?_
            show wpAny _ _ (ret Value.none) _ _ _
            refine wpAny_pure ⟨rfl, h', tk', ys, rfl, hS', hmm, by omega, fun b o e => ?_⟩
            have hb0 : b < s.heap.objs.size := Heap.lt_size e
            refine hm.heap b o ?_ (Heap.get?_push_of_some _ (Heap.get?_push_of_some _ e))
            simp only [List.mem_cons, List.mem_singleton, List.not_mem_nil, or_false, not_or]
            rw [hz1]
            exact ⟨Nat.ne_of_lt hb0, Nat.ne_of_lt (Nat.lt_succ_of_lt hb0)⟩
      · cases r₂ with
        | error e => exact hr₂
        | ok fl₂ =>
          cases fl₂ with
          | ret r =>
            obtain ⟨rfl, h', tk, ys, rfl, hS', hmm, hlen, hk'⟩ := hr₂
            repeat (any_goals (first | assumption | wp_step))
            exact h _ _ _ hS' hmm hlen hk'
          | _ => exact hr₂.elim
    | _ => exact hr.elim

/-! ### sorted(set) -/
theorem strs_of : ∀ (l : List Value), (∀ v ∈ l, ∃ k tk, v = Value.str k tk) → StrsAre l (l.map strOf)
  | [], _ => .nil
  | v :: l, h => by
    obtain ⟨k, tk, rfl⟩ := h v List.mem_cons_self
    exact .cons k tk (strs_of l fun u hu => h u (List.mem_cons_of_mem _ hu))
theorem sorted_setX {a : Addr} {l : List Str} {Q : Value → Shared → Prop} (R : SetX P w s.heap a l) (hh : A.handled = none) (hlen : l.length + 1 < scanBound)
    (hQ : ∀ s' p (out : Array Value) (c : Nat) (ys : List Str), (∀ b o, s.heap.get? b = some o → s'.heap.get? b = some o) → s'.gens = s.gens → s'.os = s.os → s.heap.objs.size ≤ p →
      s'.heap.get? p = some (seqObj "list" out c) → StrsAre out.toList ys → sortedS ys = true → ys.Perm l → Q (.ref p) s') :
    wpAny (model P w) A (call (.builtin "sorted") [.ref a]) Q E s := by
  obtain ⟨⟨es, ep, t⟩, ho, F, nd, r, hl⟩ := R
  have hf : t.fits es.size = true := F.fit
  have hsz : es.size = l.length := F.sz
  refine Calls.call_function_entry kind_sorted plain_sorted entry_sorted (args_sorted1 _) ?_
  unfold Builtin.«sorted»
  refine wpAny_bind (m := checkCount "sorted" 1 1 _) (wpAny_pure ?_)
  refine wpAny_bind (collect_set (A := A.in1) hh ⟨_, ho, rfl, rfl⟩ hf (by show es.size < scanBound; rw [hsz]; omega) r hl fun s1 vs k1 hz g1 o1 pm => ?_)
  have hvl : vs.length = l.length := by rw [pm.length_eq, List.length_map, Array.length_toList]; exact hsz
  have hst : ∀ v ∈ vs, ∃ k tk, v = Value.str k tk ∧ k ∈ l := fun v hv => by
    obtain ⟨e, he, q⟩ := List.mem_map.mp (pm.mem_iff.mp hv)
    obtain ⟨⟨k, h1, _⟩, _⟩ := F.el e he
    obtain ⟨tk, h2⟩ := Value.isStrOf_shape h1
    exact ⟨k, tk, by rw [← q]; exact h2, (F.mem k).mpr ⟨e, he, h1⟩⟩
  have hI : StrsAre vs (vs.map strOf) := strs_of vs fun v hv => let ⟨k, tk, e, _⟩ := hst v hv; ⟨k, tk, e⟩
  have pk : (vs.map strOf).Perm l := by
    refine (perm_of_sub l (vs.map strOf) nd (fun x hx => ?_) (by rw [List.length_map, hvl])).symm
    obtain ⟨e, he, h1⟩ := (F.mem x).mp hx
    obtain ⟨tk, h2⟩ := Value.isStrOf_shape h1
    exact List.mem_map.mpr ⟨e.2, pm.mem_iff.mpr (List.mem_map.mpr ⟨e, he, rfl⟩), by rw [h2]; rfl⟩
  have hline : vs.length ≤ sizeLine := by
    rw [hvl, sizeLine_eq]
    have z : scanBound = 4096 := rfl
    omega
  refine wpAny_bind (wpAny_newList ?_ hline)
  have hoL : (s1.heap.push (seqObj "list" vs.toArray 0)).get? s1.heap.objs.size = some (seqObj "list" vs.toArray 0) := Heap.get?_push_size _ rfl
  refine wpAny_bind (wpAny_holding (wpAny_call_entry slot_list_sort ⟨_, hoL, rfl⟩ entry_list_sort (list_sort_treeKAny strKind_oneLt hoL hI.keysOf (fun v₁ v₂ rest e => keyKind_strs (by rw [← e]; exact hI)) hline fun st' hp hs => ⟨_, rfl, ?_⟩) (args_list_sort _)))
  obtain ⟨ys, a1, a2, a3⟩ := sorted_out_str hI hp hs
  obtain ⟨c, hc⟩ := sortedHeap_at (vs := vs) (out := (arrOf st').map (·.2)) hoL
  refine wpAny_pure ⟨_, rfl, hQ _ s1.heap.objs.size _ c ys (fun b u e => ?_) g1 o1 hz hc a1 a3 (a2.trans pk)⟩
  have q := k1 b u e
  have hlt := Heap.lt_size q
  show (sortedHeap (s1.heap.push (seqObj "list" vs.toArray 0)) s1.heap.objs.size vs _).get? b = some u
  rw [sortedHeap_old (Nat.ne_of_lt hlt) (by rw [size_push']; exact Nat.lt_succ_of_lt hlt)]
  exact Heap.get?_push_of_some _ q
end

/-! ### over the layer -/
def SetV (P : Program) (w : World) (a : Addr) (l : List Str) : HO := .ext fun h => SetX P w h a l
section
variable {X : Cx}
theorem setV_new {P : Program} {w : World} {H : Hp} {h : Heap} {a : Addr} {l : List Str} (R : SetX P w h a l) : ObjOk P w H h a (SetV P w a l) := by
  have ⟨o, ho, _⟩ := R
  exact ⟨R, ⟨_, ho⟩, fun h1 h2 p k => SetX.at p k⟩
/-- set(xs), xs a list or a tuple of texts -/
def rSetX (K : PySem.W.Frag) (P : Program) (w : World) : List V → Hp → VK → Prop := fun vs H Q => ∃ (a : Addr) (xs : List Str), vs = [V.ref a] ∧ (SqL K H a (xs.map V.str) ∨ SqT K H a (xs.map V.str)) ∧ xs.length < 4000 ∧
  ∀ p ys, H p = none → (∀ x, x ∈ ys ↔ x ∈ xs) → ys.Nodup → ys.length ≤ xs.length → Q (.ref p) (upd H p (SetV P w p ys))
theorem cr_setX (hc : X.calm = true) : CallR X (.type "set") (rSetX X.K X.prog X.w) := by
  intro pins s σ H vs us Q I r h
  obtain ⟨a, xs, rfl, hs, hlen, q⟩ := h
  rw [Vals.ref1 r]
  have hn : H s.heap.objs.size = none := I.hok.fresh (Nat.le_refl _)
  have hz : xs.length + 1 < scanBound := by
    have z : scanBound = 4096 := rfl
    omega
  obtain ⟨its, rv, pl⟩ : ∃ its : List Value, Vals (xs.map V.str) its ∧ (s.heap.IsList a its.toArray ∨ s.heap.IsTuple a its.toArray) := by
    rcases hs with hs | hs
    · obtain ⟨its, rv, pl, _⟩ := I.list hs
      exact ⟨its, rv, .inl pl.isList⟩
    · obtain ⟨its, rv, pl, _⟩ := I.tuple hs
      exact ⟨its, rv, .inr pl⟩
  refine call_set (P := X.prog) (w := X.w) (I.ok.hd hc) pl (by simpa using rv.strs) hz fun h' tk ys R hm hl k => ?_
  have nd : ys.Nodup := by
    obtain ⟨_, _, _, z, _⟩ := R
    exact z
  exact ⟨.ref s.heap.objs.size, upd H s.heap.objs.size (SetV X.prog X.w s.heap.objs.size ys), I.laid (t' := tk) k (Nat.le_refl _) (setV_new R), rfl, q _ ys hn hm nd hl⟩
/-- sorted(a set of texts) -/
def rSortX (P : Program) (w : World) : List V → Hp → VK → Prop := fun vs H Q => ∃ (a : Addr) (l : List Str), vs = [V.ref a] ∧ H a = some (SetV P w a l) ∧ l.length < 4000 ∧
  ∀ ys p, ys.Perm l → sortedS ys = true → H p = none → Q (.ref p) (upd H p (.lst (ys.map V.str)))
theorem cr_sortX (hc : X.calm = true) : CallR X (.builtin "sorted") (rSortX X.prog X.w) := by
  intro pins s σ H vs us Q I r h
  obtain ⟨a, l, rfl, ha, hlen, q⟩ := h
  have R : SetX X.prog X.w s.heap a l := (I.hok a _ ha).1
  rw [Vals.ref1 r]
  have hz : l.length + 1 < scanBound := by
    have z : scanBound = 4096 := rfl
    omega
  refine sorted_setX R (I.ok.hd hc) hz fun s' p out c ys k g o hp hg hi hs pm => ?_
  have hl2 : (ys.map V.str).length ≤ sizeLine := by
    rw [List.length_map, pm.length_eq, sizeLine_eq]
    omega
  have hn : H p = none := I.hok.fresh hp
  have J : Inv X pins σ (upd H p (.lst (ys.map V.str))) { s with heap := s'.heap, gens := s'.gens, drawn := s'.drawn, toks := s'.toks } :=
    I.call (ch := []) (Un.laid k hp hn) (I.hok.laid k hp ⟨hl2, out.toList, c, vals_of_strs hi, hg⟩) (by rw [g]; exact I.bare) (fun _ z => nomatch z)
  have e : s' = { s with heap := s'.heap, gens := s'.gens, drawn := s'.drawn, toks := s'.toks } := by
    cases s'
    cases s
    cases o
    rfl
  rw [e]
  exact ⟨.ref p, _, J, rfl, q ys p pm hs hn⟩
end
end Sx
/-! Calls of the module's own defs by their promises, walks over a list or a tuple, data that stays. -/
namespace Bx
open PySem PySem.Spec PyProof.Rows L2 TL

/-- the module's name x holds a def that keeps sp, by at most level k -/
structure Cal (P : Program) (w : World) (K : PySem.W.Frag) (mg : Str → Option Value) (base : Heap) (x : Str) (k : Nat) (ps : List Str) (sp : Sp) : Prop where
  ex : ∃ (f : Addr) (fd : FuncData), FnOk P w K mg base CX0 k f fd ps sp ∧ mg x = some (.ref f) ∧ PySem.W.keepIn K (.ref f) = true ∧ Binds K fd ps []
/-- the same of a def with a star parameter alone -/
structure CalR (P : Program) (w : World) (K : PySem.W.Frag) (mg : Str → Option Value) (base : Heap) (x : Str) (k : Nat) (sp : Sp) : Prop where
  ex : ∃ f : Addr, FnR P w K mg base CX0 k f sp ∧ mg x = some (.ref f) ∧ PySem.W.keepIn K (.ref f) = true
section
variable {X : Cx} {x : Str} {k : Nat} {ps : List Str} {sp : Sp} {e : Expr} {es : List Expr} {t : TA} {p pos : Pos}
def tCal (sp : Sp) (t : TA) : TE := fun σ H Q => t σ H fun vs H1 => sp vs H1 Q E0
theorem pe_cal (c : Cal X.prog X.w X.K X.mg X.base x k ps sp) (hr : Room k X.A) (ha : PA X (e :: es) t) (hg : Gl X x := by rfl) (hdb : (x == ("__debug__" : Str)) = false := by decide)
    (he : starEach (e :: es) X.env = (false, eval e X.env) :: starEach es X.env := by rfl) (hpl : (backTo pos (starEach es X.env)).any (·.1) = false := by rfl) : PE X (.Call (.Name x p) (e :: es) [] pos) (tCal sp t) := by
  obtain ⟨f, fd, ok, g, kp, b⟩ := c.ex
  have z := pe_call (E := E0) ok hr hg g kp b .nil pass0 ha hdb he hpl (p := p)
  refine ⟨fun pins s σ H Q I h => z.run pins s σ H Q I ?_⟩
  unfold tCall
  simp only [List.append_nil]
  exact h
theorem pe_cal0 (c : Cal X.prog X.w X.K X.mg X.base x k ps sp) (hr : Room k X.A) (hg : Gl X x := by rfl) (hdb : (x == ("__debug__" : Str)) = false := by decide) : PE X (.Call (.Name x p) [] [] pos) (tCal sp tNil) := by
  obtain ⟨f, fd, ok, g, kp, b⟩ := c.ex
  have z := pe_call0 (E := E0) (pos := pos) ok hr hg g kp b .nil pass0 hdb (p := p)
  refine ⟨fun pins s σ H Q I h => z.run pins s σ H Q I ?_⟩
  exact h
theorem pe_calR (c : CalR X.prog X.w X.K X.mg X.base x k sp) (hr : Room k X.A) (ha : PA X (e :: es) t) (hg : Gl X x := by rfl) (hdb : (x == ("__debug__" : Str)) = false := by decide)
    (he : starEach (e :: es) X.env = (false, eval e X.env) :: starEach es X.env := by rfl) (hpl : (backTo pos (starEach es X.env)).any (·.1) = false := by rfl) : PE X (.Call (.Name x p) (e :: es) [] pos) (tCal sp t) := by
  obtain ⟨f, ok, g, kp⟩ := c.ex
  refine ⟨fun pins s σ H Q I h => ?_⟩
  refine wpAny_Call_Name_kw (ld_glob I hg g ?_ hdb)
  refine PySem.W.callWith_K (h₀ := X.base) I.ok.mod.kin kp (thn (ha.run pos pins s σ H _ I h) fun us s1 ⟨vs, H1, I1, r, q⟩ => ⟨I1.kIn, ?_⟩) he hpl
  exact wpAny_call (run_fnR ok hr pass0 I1 r q)
theorem pe_calR0 (c : CalR X.prog X.w X.K X.mg X.base x k sp) (hr : Room k X.A) (hg : Gl X x := by rfl) (hdb : (x == ("__debug__" : Str)) = false := by decide) : PE X (.Call (.Name x p) [] [] pos) (tCal sp tNil) := by
  obtain ⟨f, ok, g, kp⟩ := c.ex
  refine ⟨fun pins s σ H Q I h => ?_⟩
  refine wpAny_Call_Name_kw (ld_glob I hg g ?_ hdb)
  exact PySem.W.callWith_K0 I.kIn kp (wpAny_call (run_fnR ok hr pass0 I .nil h))

/-- x(*y) -/
theorem pe_calS {te : TE} {sp_ : Pos} (c : CalR X.prog X.w X.K X.mg X.base x k sp) (hr : Room k X.A) (he : PE X e te) (hg : Gl X x := by rfl) (hdb : (x == ("__debug__" : Str)) = false := by decide) (hst : starEach [.Starred e sp_] X.env = [(true, eval e X.env)] := by rfl) :
    PE X (.Call (.Name x p) [.Starred e sp_] [] pos) (fun σ H Q => te σ H fun y H1 => ∃ a xs, y = V.ref a ∧ (SqT X.K H1 a xs ∨ SqL X.K H1 a xs) ∧ sp xs H1 Q E0) := by
  obtain ⟨f, ok, g, kp⟩ := c.ex
  exact StX.pe_callS1 ok hr kp hg g pass0 he hdb hst

/-- a walk over a list or a tuple -/
def SeqCase (K : PySem.W.Frag) (a : Addr) (H : Hp) (R : It → Hp → Prop) : Prop := ((∃ xs, SqL K H a xs) ∧ R (Itl K a) H) ∨ ((∃ xs, SqT K H a xs) ∧ R (Itt K a) H)
def iSeq (K : PySem.W.Frag) (tl : TE) : TI := fun σ H R => tl σ H fun x H1 => ∃ a, x = .ref a ∧ SeqCase K a H1 R
theorem pi_seq {tg l : Expr} {tl : TE} (hl : PE X l tl) : PI X tg l (iSeq X.K tl) := by
  refine ⟨fun pins s σ H R I h => ?_⟩
  refine thn (hl.run pins s σ H _ I h) fun v s1 ⟨x, H1, I1, r1, q1⟩ => ?_
  obtain ⟨a, e, q1⟩ := q1
  subst e
  cases r1
  rcases q1 with ⟨⟨xs, hq⟩, q⟩ | ⟨⟨xs, hq⟩, q⟩
  · obtain ⟨its, rv, p, hz⟩ := I1.list hq
    refine wpAny_pyIter_list p.isList ?_
    exact pi_one (tk := s1.toks) I1 _ (turn_list a _) ⟨_, Heap.get?_push_size _ rfl, rfl, rfl⟩ q
  · obtain ⟨its, rv, p, hz⟩ := I1.tuple hq
    refine wpAny_pyIter_tuple (show s1.heap.IsTuple a its.toArray from p) ?_
    exact pi_one (tk := s1.toks) I1 _ (turn_tuple a _) ⟨_, Heap.get?_push_size _ rfl, rfl, rfl⟩ q
end

/-! ### rules with the written part named (within a block) -/
section
variable {X : Cx} {K : PySem.W.Frag}
theorem ix_listK (h : X.K = K) : IxR X (rIxL K) := h ▸ ix_list
theorem ix_tupK (h : X.K = K) : IxR X (rIxT K) := h ▸ ix_tup
theorem op_in_seqK (h : X.K = K) : OpR X (compareOp .In) (rIn K false) := h ▸ op_in_seq
theorem call_list_ofK (h : X.K = K) : CallR X (.type "list") (fun xs H Q => ∃ p ys, xs = [.ref p] ∧ (SqL K H p ys ∨ SqT K H p ys) ∧ ∀ l, H l = none → Q (.ref l) (upd H l (.lst ys))) := by
  subst h
  exact call_list_of
theorem call_tuple_ofK (h : X.K = K) : CallR X (.type "tuple") (fun xs H Q => ∃ p ys, xs = [.ref p] ∧ ((SqL K H p ys ∧ ∀ l, H l = none → Q (.ref l) (upd H l (.tup ys))) ∨ (SqT K H p ys ∧ Q (.ref p) H))) := by
  subst h
  exact call_tuple_of
theorem call_len_seqK (h : X.K = K) : CallR X (.builtin "len") (fun xs H Q => ∃ p ys, xs = [.ref p] ∧ (SqL K H p ys ∨ SqT K H p ys) ∧ Q (.int ys.length) H) := by
  subst h
  exact call_len_seq
theorem cr_allK (h : X.K = K) (hc : X.calm = true) : CallR X (.builtin "all") (rAll K) := by
  subst h
  exact cr_all hc
theorem pg_tupK {es : List Expr} {k : Nat} {t : TGs} {n : Nat} {pos : Pos} (h : X.K = K) (hc : X.calm = true) (hs : PGs X es t)
    (hn : (assignEach es X.env).length = n := by rfl) (hst : (assignEach es X.env).findIdx? (·.1) = none := by rfl) : PG X (.Tuple es k pos) (gTup K n t) := by
  subst h
  exact pg_tup hc hs hn hst
theorem op_notIn_seqK (h : X.K = K) : OpR X (compareOp .NotIn) (rIn K true) := h ▸ op_notIn_seq
end

/-! ### heaps -/
theorem same_new {H : Hp} {p : Addr} {o : HO} (h : H p = none) : Same H (upd H p o) := fun b x e => by
  rw [upd_ne (ne_of_none e h)]
  exact e
theorem same_at {H H2 : Hp} {p : Addr} {o : HO} (h : H p = none) (s : Same H H2) : Same H (upd H2 p o) := fun b x e => by
  rw [upd_ne (ne_of_none e h)]
  exact s b x e
theorem Same.tup {K : PySem.W.Frag} {H H' : Hp} {a : Addr} {xs : List V} (e : Same H H') (h : SqT K H a xs) : SqT K H' a xs := by
  rcases h with (h | ⟨o, h⟩) | h
  · exact .inl (.inl (e _ _ h))
  · exact .inl (.inr ⟨o, e _ _ h⟩)
  · exact .inr h
theorem sq {K : PySem.W.Frag} {H : Hp} {a : Addr} {xs : List V} (h : H a = some (.lst xs)) : SqL K H a xs := Or.inl (Or.inl h)
theorem sqt {K : PySem.W.Frag} {H : Hp} {a : Addr} {xs : List V} (h : H a = some (.tup xs)) : SqT K H a xs := Or.inl (Or.inl h)
/-- all that was tracked but a is as it was -/
def SameBut (a : Addr) (H H' : Hp) : Prop := ∀ b o, b ≠ a → H b = some o → H' b = some o
theorem SameBut.refl (a : Addr) (H : Hp) : SameBut a H H := fun _ _ _ h => h
theorem SameBut.trans {a : Addr} {H H1 H2 : Hp} (x : SameBut a H H1) (y : SameBut a H1 H2) : SameBut a H H2 := fun b o n h => y b o n (x b o n h)
theorem Same.but {a : Addr} {H H' : Hp} (x : Same H H') : SameBut a H H' := fun b o _ h => x b o h
theorem SameBut.upd {a : Addr} {H : Hp} {o : HO} : SameBut a H (upd H a o) := fun b x n h => by
  rw [upd_ne n]
  exact h
/-- new objects do not disturb: what was tracked at H, where a was not -/
theorem SameBut.same {a : Addr} {H H1 H2 : Hp} (x : Same H H1) (n : H a = none) (y : SameBut a H1 H2) : Same H H2 := fun b o h => y b o (ne_of_none h n) (x b o h)
theorem sz {n : Nat} (h : n ≤ 100000) : n ≤ sizeLine := Nat.le_trans h (by decide)
theorem szl {n : Nat} (h : n < 100000) : n < sizeLine := Nat.lt_of_lt_of_le h (by decide)
/-- the source of draws at a -/
def Src (H : Hp) (a : Addr) : Prop := ∃ n c : Int, H a = some (.lst [.int n, .int c])

/-! ### data -/
mutual
theorem dp_same {K : PySem.W.Frag} {H H' : Hp} (e : Same H H') : ∀ {v : V} {d : PyData}, Dp K H v d → Dp K H' v d
  | _, _, .non => .non
  | _, _, .bl b => .bl b
  | _, _, .int i => .int i
  | _, _, .str x => .str x
  | _, _, .lst h a => .lst (e.seq h) (dpAll_same e a)
  | _, _, .tup h a => .tup (Bx.Same.tup e h) (dpAll_same e a)
theorem dpAll_same {K : PySem.W.Frag} {H H' : Hp} (e : Same H H') : ∀ {vs : List V} {ds : List PyData}, DpAll K H vs ds → DpAll K H' vs ds
  | _, _, .nil => .nil
  | _, _, .cons h a => .cons (dp_same e h) (dpAll_same e a)
end
theorem dp_strs {K : PySem.W.Frag} {H : Hp} : ∀ ys : List Str, DpAll K H (ys.map V.str) (ys.map PyData.str)
  | [] => .nil
  | y :: ys => .cons (.str y) (dp_strs ys)
theorem dp_ints {K : PySem.W.Frag} {H : Hp} : ∀ ys : List Int, DpAll K H (ys.map V.int) (ys.map PyData.int)
  | [] => .nil
  | y :: ys => .cons (.int y) (dp_ints ys)
theorem dp_map {K : PySem.W.Frag} {H : Hp} {α : Type} {f : α → V} {g : α → PyData} : ∀ {l : List α}, (∀ x ∈ l, Dp K H (f x) (g x)) → DpAll K H (l.map f) (l.map g)
  | [], _ => .nil
  | x :: l, h => .cons (h x List.mem_cons_self) (dp_map fun y hy => h y (List.mem_cons_of_mem _ hy))

/-! ### walks with any body -/
theorem walk_any {J : It} {n : Nat} {G : Hp → Prop} {Y : Nat → Hp → V → Hp → Prop} (w : Walk J n G Y) {Z : Hp → Prop} {B : (Hp → Prop) → V → Hp → Prop} {H0 : Hp} (Pv : Nat → Hp → Prop) (h0 : Pv 0 H0) (hG : ∀ i H, i ≤ n → Pv i H → G H)
    (hs : ∀ i x H H', i < n → Pv i H → Y i H x H' → B (Pv (i + 1)) x H') (hd : ∀ H, Pv n H → Z H) :
    ∃ W : Nat → Nat → Hp → Prop, (∃ m, W 0 m H0) ∧ ∀ i m H, W i m H → (J.stop i H ∧ Z H) ∨ (J.go i H ∧ ∃ Nx : Hp → Prop, (∀ H', Nx H' → ∃ m', m' < m ∧ W (i + 1) m' H') ∧ ∀ x H', J.yld i H x H' → B Nx x H') := by
  refine ⟨fun i m H => m = n - i ∧ i ≤ n ∧ Pv i H, ⟨n, by simp, Nat.zero_le _, h0⟩, ?_⟩
  rintro i m H ⟨rfl, hi, p⟩
  have q := hG i H hi p
  by_cases hlt : i < n
  · exact .inr ⟨w.goes i H hlt q, Pv (i + 1), fun H' p' => ⟨n - (i + 1), by omega, rfl, hlt, p'⟩, fun x H' y => hs i x H H' hlt p (w.yields i H x H' hlt q y)⟩
  · have e : i = n := by omega
    subst e
    exact .inl ⟨w.stops H q, hd H p⟩

/-! ### a def with a star parameter alone -/
theorem okStar {P : Program} {w : World} {K : PySem.W.Frag} {mg : Str → Option Value} {base : Heap} {x qual pn : Str} {st : Stmt} {f : Addr} {fd : FuncData} {N : List Str} {k : Nat} {sp : Sp} (F : Fun K x qual st f fd) (S : FnScope N [pn] (defScope st))
    (hb : ∀ (kV doc pm : Value) (an : Option Addr) (cdv ct : Value) (rest : List Value), bindArgs (PySem.W.fnOf x qual (defArgs st) (defBody st) (defScope st) .none kV doc pm an cdv ct) ⟨rest, []⟩ = (newTuple rest >>= fun t => pure [(pn, t)]))
    (hbody : ∀ (cdv : Value) (A : Around) (outer : List Env) (s : Shared) (H : Hp) (vs : List V) (Q : VK) (E : XK), Room k (A.deeper (envOfC qual (defScope st) s.heap.objs.size f cdv)) → sp vs H Q E →
      ∃ t, PSs (cxOf CX0 P w K mg base N qual (defScope st) f cdv A outer s H E) (defBody st) t ∧ t { nx := fun _ H' => Q .non H', rt := Q } (start N vs) H) :
    FnR P w K mg base CX0 (k + 1) f (fun vs H Q E => vs.length ≤ sizeLine ∧ ∀ p, H p = none → sp [V.ref p] (upd H p (.tup vs)) Q E) := by
  obtain ⟨oc, od, kV, doc, pm, an, cdv, ct, osl, rfl, lk, hcd⟩ := F.ex
  have z := StX.fn_star (P := P) (w := w) (K := K) (mg := mg) (base := base) (CX := CX0) (ps := []) (sp := sp) lk hcd S StX.cxUp_none (fun us rest hl => by
    have e : us = [] := List.length_eq_zero_iff.mp hl
    subst e
    exact hb kV doc pm an cdv ct rest) (hbody cdv)
  exact z.imp fun vs H Q E h => ⟨[], vs, rfl, rfl, h.1, h.2⟩

/-- one parameter ahead of the star -/
theorem okStar1 {P : Program} {w : World} {K : PySem.W.Frag} {mg : Str → Option Value} {base : Heap} {x qual p1 pn : Str} {st : Stmt} {f : Addr} {fd : FuncData} {N : List Str} {k : Nat} {sp : Sp} (F : Fun K x qual st f fd) (S : FnScope N [p1, pn] (defScope st))
    (h0 : ∀ (kV doc pm : Value) (an : Option Addr) (cdv ct a : Value), bindArgs (PySem.W.fnOf x qual (defArgs st) (defBody st) (defScope st) .none kV doc pm an cdv ct) ⟨[a], []⟩ = (newTuple [] >>= fun t => pure [(p1, a), (pn, t)]))
    (h1 : ∀ (kV doc pm : Value) (an : Option Addr) (cdv ct a r : Value) (rs : List Value), bindArgs (PySem.W.fnOf x qual (defArgs st) (defBody st) (defScope st) .none kV doc pm an cdv ct) ⟨a :: r :: rs, []⟩ = (newTuple (r :: rs) >>= fun t => pure [(p1, a), (pn, t)]))
    (hbody : ∀ (cdv : Value) (A : Around) (outer : List Env) (s : Shared) (H : Hp) (vs : List V) (Q : VK) (E : XK), Room k (A.deeper (envOfC qual (defScope st) s.heap.objs.size f cdv)) → sp vs H Q E →
      ∃ t, PSs (cxOf CX0 P w K mg base N qual (defScope st) f cdv A outer s H E) (defBody st) t ∧ t { nx := fun _ H' => Q .non H', rt := Q } (start N vs) H) :
    FnR P w K mg base CX0 (k + 1) f (fun vs H Q E => ∃ v rest, vs = v :: rest ∧ rest.length ≤ sizeLine ∧ ∀ p, H p = none → sp [v, V.ref p] (upd H p (.tup rest)) Q E) := by
  obtain ⟨oc, od, kV, doc, pm, an, cdv, ct, osl, rfl, lk, hcd⟩ := F.ex
  have z := StX.fn_star (P := P) (w := w) (K := K) (mg := mg) (base := base) (CX := CX0) (ps := [p1]) (sp := sp) lk hcd S StX.cxUp_none
    (StX.bind_star1 (B := fun us => bindArgs (PySem.W.fnOf x qual (defArgs st) (defBody st) (defScope st) .none kV doc pm an cdv ct) ⟨us, []⟩) (h0 kV doc pm an cdv ct) (h1 kV doc pm an cdv ct)) (hbody cdv)
  exact z.imp fun vs H Q E ⟨v, rest, e, hl, h⟩ => ⟨[v], rest, e, rfl, hl, h⟩

/-! ### a walk over a list or a tuple, told once -/
theorem seq_case {K : PySem.W.Frag} {H : Hp} {a : Addr} {xs : List V} {R : It → Hp → Prop} (h : SqL K H a xs ∨ SqT K H a xs) (k : ∀ (J : It) (G : Hp → Prop), Walk J xs.length G (YAt xs) → (∀ H', Same H H' → G H') → R J H) : SeqCase K a H R := by
  rcases h with h | h
  · exact .inl ⟨⟨_, h⟩, k _ _ walk_list fun H' s => s.seq h⟩
  · exact .inr ⟨⟨_, h⟩, k _ _ walk_tup fun H' s => Bx.Same.tup s h⟩
theorem at_map {α : Type} {l : List α} {f : α → V} {i : Nat} {x : V} (h : (l.map f)[i]? = some x) : ∃ y, l[i]? = some y ∧ x = f y := by
  rw [List.getElem?_map] at h
  cases e : l[i]? with
  | none =>
    rw [e] at h
    cases h
  | some y =>
    rw [e] at h
    exact ⟨y, rfl, (Option.some.inj h).symm⟩

/-! ### texts in ascending order -/
theorem rising_at : ∀ (p : Str) (r : List Str), risingS p r = true → ∀ (k : Nat) (x y : Str), (p :: r)[k]? = some x → (p :: r)[k + 1]? = some y → ltCps y.cps.toList x.cps.toList = false
  | p, [], _, k, x, y, _, h2 => by
    simp at h2
  | p, q :: r, h, k, x, y, h1, h2 => by
    have h3 : (!ltCps q.cps.toList p.cps.toList && risingS q r) = true := h
    rw [Bool.and_eq_true] at h3
    cases k with
    | zero =>
      have e1 : p = x := Option.some.inj h1
      have e2 : q = y := Option.some.inj h2
      rw [← e1, ← e2]
      simpa using h3.1
    | succ k => exact rising_at q r h3.2 k x y h1 h2
theorem sorted_at {l : List Str} (h : sortedS l = true) (nd : l.Nodup) {k : Nat} {x y : Str} (h1 : l[k]? = some x) (h2 : l[k + 1]? = some y) : x.cps.toList < y.cps.toList := by
  cases l with
  | nil => cases h1
  | cons p r =>
    have a := rising_at p r h k x y h1 h2
    rw [ltCps_eq] at a
    refine Std.lt_of_le_of_ne (of_decide_eq_false a) fun e => ?_
    have e2 : x = y := ext_tl e
    obtain ⟨i1, e3⟩ := List.getElem?_eq_some_iff.mp h1
    obtain ⟨i2, e4⟩ := List.getElem?_eq_some_iff.mp h2
    have z := List.pairwise_iff_getElem.mp nd k (k + 1) i1 i2 (Nat.lt_succ_self k)
    exact z (e3.trans (e2.trans e4.symm))

/-! ### membership of texts -/
theorem inV_str (x : Str) (ys : List Str) : inV (.str x) (ys.map V.str) = decide (x ∈ ys) := by
  unfold inV
  rw [List.any_map]
  induction ys with
  | nil => rfl
  | cons y ys ih =>
    rw [List.any_cons, ih]
    show ((y == x) || _) = _
    by_cases e : y = x
    · subst e
      simp
    · have e2 : (y == x) = false := by simpa using e
      rw [e2, Bool.false_or]
      by_cases h : x ∈ ys
      · rw [decide_eq_true h, decide_eq_true (List.mem_cons_of_mem _ h)]
      · rw [decide_eq_false h, decide_eq_false (fun z => (List.mem_cons.mp z).elim (fun z => e z.symm) h)]
theorem flat_all (ys : List Str) : (ys.map V.str).all flatV = true := by
  rw [List.all_map, List.all_eq_true]
  intro y _
  rfl
theorem lay_strs : ∀ ys : List Str, (∀ y ∈ ys, PyData.strOk y = true) → PyData.canLayAll0 (ys.map PyData.str) = true ∧ PyData.depthAll (ys.map PyData.str) ≤ 1
  | [], _ => ⟨rfl, by decide⟩
  | y :: ys, h => by
    obtain ⟨a, b⟩ := lay_strs ys fun z hz => h z (List.mem_cons_of_mem _ hz)
    constructor
    · show (PyData.strOk y && PyData.canLayAll0 (ys.map PyData.str)) = true
      rw [a, h y List.mem_cons_self]
      rfl
    · show max (PyData.depth (.str y)) (PyData.depthAll (ys.map PyData.str)) ≤ 1
      exact Nat.max_le.mpr ⟨by first | exact Nat.zero_le _ | decide | exact Nat.le_refl _, b⟩
theorem lay_lists : ∀ L : List (List Str), (∀ ys ∈ L, ∀ y ∈ ys, PyData.strOk y = true) → PyData.canLayAll0 (L.map fun ys => PyData.list (ys.map PyData.str)) = true ∧ PyData.depthAll (L.map fun ys => PyData.list (ys.map PyData.str)) ≤ 2
  | [], _ => ⟨rfl, by decide⟩
  | ys :: L, h => by
    obtain ⟨a, b⟩ := lay_lists L fun z hz => h z (List.mem_cons_of_mem _ hz)
    obtain ⟨c, d⟩ := lay_strs ys (h ys List.mem_cons_self)
    constructor
    · show (PyData.canLayAll0 (ys.map PyData.str) && PyData.canLayAll0 (L.map fun ys => PyData.list (ys.map PyData.str))) = true
      rw [a, c]
      rfl
    · show max (PyData.depthAll (ys.map PyData.str) + 1) (PyData.depthAll (L.map fun ys => PyData.list (ys.map PyData.str))) ≤ 2
      exact Nat.max_le.mpr ⟨by omega, b⟩

/-! ### signs of a written text -/
theorem pick {L : Str} {r : Int} (h0 : 0 ≤ r) (h1 : r < (tl L).length) : ∃ c, atI L.cps.toList r = some c ∧ c ∈ tl L := by
  obtain ⟨n, rfl⟩ := Int.eq_ofNat_of_zero_le h0
  have hn : n < (tl L).length := by omega
  exact ⟨(tl L)[n], atI_nat (List.getElem?_eq_getElem hn), List.getElem_mem hn⟩
end Bx
/-! Data that stands in the heap, beside objects that change; rules told of data. -/
namespace Dx
open PySem PySem.Spec PyProof.Rows L2 Bx TL

/-! ### the heap without some addresses -/
def mn (H : Hp) (S : List Addr) : Hp := fun b => if b ∈ S then none else H b
theorem mn_in {H : Hp} {S : List Addr} {b : Addr} (h : b ∈ S) : mn H S b = none := if_pos h
theorem mn_out {H : Hp} {S : List Addr} {b : Addr} (h : b ∉ S) : mn H S b = H b := if_neg h
theorem mn_same {H : Hp} {S : List Addr} : Same (mn H S) H := fun b o e => by
  by_cases h : b ∈ S
  · rw [mn_in h] at e
    cases e
  · rw [mn_out h] at e
    exact e
theorem mn_nil {H : Hp} : mn H [] = H := funext fun b => mn_out (by simp)
theorem mn_sub {H : Hp} {S T : List Addr} (h : ∀ b, b ∈ S → b ∈ T) : Same (mn H T) (mn H S) := fun b o e => by
  by_cases h1 : b ∈ T
  · rw [mn_in h1] at e
    cases e
  · rw [mn_out h1] at e
    rw [mn_out fun z => h1 (h b z)]
    exact e
theorem mn_upd {H : Hp} {S : List Addr} {a : Addr} {o : HO} (h : a ∈ S) : mn (upd H a o) S = mn H S := funext fun b => by
  by_cases h1 : b ∈ S
  · rw [mn_in h1, mn_in h1]
  · rw [mn_out h1, mn_out h1, upd_ne (show b ≠ a from fun z => h1 (by rw [z]; exact h))]
theorem mn_new {H : Hp} {S : List Addr} {p : Addr} {o : HO} (h : H p = none) : Same (mn H S) (mn (upd H p o) S) := fun b u e => by
  by_cases h1 : b ∈ S
  · rw [mn_in h1] at e
    cases e
  · rw [mn_out h1] at e ⊢
    rw [upd_ne (ne_of_none e h)]
    exact e
theorem mn_but {H H' : Hp} {S : List Addr} {a : Addr} (h : a ∈ S) (s : SameBut a H H') : Same (mn H S) (mn H' S) := fun b u e => by
  by_cases h1 : b ∈ S
  · rw [mn_in h1] at e
    cases e
  · rw [mn_out h1] at e ⊢
    exact s b u (fun z => h1 (z ▸ h)) e
theorem mn_all {H H' : Hp} {S : List Addr} (s : Same H H') : Same (mn H S) (mn H' S) := fun b u e => by
  by_cases h1 : b ∈ S
  · rw [mn_in h1] at e
    cases e
  · rw [mn_out h1] at e ⊢
    exact s b u e
theorem mn_to {H H' : Hp} {S T : List Addr} (h : ∀ b, b ∈ S → b ∈ T) (s : Same (mn H S) (mn H' S)) : Same (mn H T) (mn H' T) := fun b u e => by
  by_cases h1 : b ∈ T
  · rw [mn_in h1] at e
    cases e
  · rw [mn_out h1] at e ⊢
    have z := s b u (by rw [mn_out fun z => h1 (h b z)]; exact e)
    rw [mn_out fun z => h1 (h b z)] at z
    exact z
/-- what is tracked beside S was there, or is new -/
theorem mn_at {H : Hp} {S : List Addr} {b : Addr} {o : HO} (h : b ∉ S) (e : H b = some o) : mn H S b = some o := by
  rw [mn_out h]
  exact e
theorem mn_keep {H H' : Hp} {S : List Addr} (s : Same (mn H S) (mn H' S)) {b : Addr} {o : HO} (h : b ∉ S) (e : H b = some o) : H' b = some o := mn_same _ _ (s _ _ (mn_at h e))
theorem mn_free {H H' : Hp} {S : List Addr} (s : Same (mn H S) (mn H' S)) {b : Addr} (h : b ∉ S) (e : H' b = none) : H b = none := by
  cases z : H b with
  | none => rfl
  | some o =>
    rw [mn_keep s h z] at e
    cases e

/-! ### data -/
section
variable {K : PySem.W.Frag} {H : Hp}
theorem dp_lst {v : V} {ds : List PyData} (h : Dp K H v (.list ds)) : ∃ a xs, v = .ref a ∧ SqL K H a xs ∧ DpAll K H xs ds := by
  cases h with
  | lst s a => exact ⟨_, _, rfl, s, a⟩
theorem dp_tup {v : V} {ds : List PyData} (h : Dp K H v (.tuple ds)) : ∃ a xs, v = .ref a ∧ SqT K H a xs ∧ DpAll K H xs ds := by
  cases h with
  | tup s a => exact ⟨_, _, rfl, s, a⟩
theorem dp_str {v : V} {s : Str} (h : Dp K H v (.str s)) : v = .str s := by cases h; rfl
theorem dp_int {v : V} {i : Int} (h : Dp K H v (.int i)) : v = .int i := by cases h; rfl
theorem da_len : ∀ {xs : List V} {ds : List PyData}, DpAll K H xs ds → xs.length = ds.length
  | _, _, .nil => rfl
  | _, _, .cons _ t => congrArg (· + 1) (da_len t)
theorem da_get : ∀ {xs : List V} {ds : List PyData}, DpAll K H xs ds → ∀ {i : Nat} {d : PyData}, ds[i]? = some d → ∃ v, xs[i]? = some v ∧ Dp K H v d
  | _, _, .nil, i, d, e => by cases e
  | _, _, .cons h t, 0, d, e => by
    cases e
    exact ⟨_, rfl, h⟩
  | _, _, .cons h t, i + 1, d, e => da_get t e
theorem da_at : ∀ {xs : List V} {ds : List PyData}, DpAll K H xs ds → ∀ {i : Nat} {v : V}, xs[i]? = some v → ∃ d, ds[i]? = some d ∧ Dp K H v d
  | _, _, .nil, i, d, e => by cases e
  | _, _, .cons h t, 0, d, e => by
    cases e
    exact ⟨_, rfl, h⟩
  | _, _, .cons h t, i + 1, d, e => da_at t e
theorem da_app : ∀ {xs ys : List V} {ds es : List PyData}, DpAll K H xs ds → DpAll K H ys es → DpAll K H (xs ++ ys) (ds ++ es)
  | _, _, _, _, .nil, h => h
  | _, _, _, _, .cons h t, k => .cons h (da_app t k)
theorem da_one {v : V} {d : PyData} (h : Dp K H v d) : DpAll K H [v] [d] := .cons h .nil
theorem da_strs : ∀ {xs : List V} {ns : List Str}, DpAll K H xs (ns.map PyData.str) → xs = ns.map V.str
  | [], [], _ => rfl
  | [], _ :: _, h => by cases h
  | _ :: _, [], h => by cases h
  | x :: xs, n :: ns, h => by
    cases h with
    | cons h t =>
      rw [dp_str h, da_strs t]
      rfl
theorem da_ints : ∀ {xs : List V} {ns : List Int}, DpAll K H xs (ns.map PyData.int) → xs = ns.map V.int
  | [], [], _ => rfl
  | [], _ :: _, h => by cases h
  | _ :: _, [], h => by cases h
  | x :: xs, n :: ns, h => by
    cases h with
    | cons h t =>
      rw [dp_int h, da_ints t]
      rfl
theorem da_take : ∀ {xs : List V} {ds : List PyData}, DpAll K H xs ds → ∀ n, DpAll K H (xs.take n) (ds.take n)
  | _, _, .nil, n => by
    rw [List.take_nil, List.take_nil]
    exact .nil
  | _, _, .cons h t, 0 => .nil
  | _, _, .cons h t, n + 1 => .cons h (da_take t n)
/-- the strs of a tuple of texts -/
theorem dp_names {v : V} {ns : List Str} (h : Dp K H v (.tuple (ns.map PyData.str))) : ∃ a, v = .ref a ∧ SqT K H a (ns.map V.str) := by
  obtain ⟨a, xs, rfl, s, t⟩ := dp_tup h
  rw [da_strs t] at s
  exact ⟨a, rfl, s⟩
theorem dp_namesL {v : V} {ns : List Str} (h : Dp K H v (.list (ns.map PyData.str))) : ∃ a, v = .ref a ∧ SqL K H a (ns.map V.str) := by
  obtain ⟨a, xs, rfl, s, t⟩ := dp_lst h
  rw [da_strs t] at s
  exact ⟨a, rfl, s⟩
theorem names_dp {a : Addr} {ns : List Str} (h : SqT K H a (ns.map V.str)) : Dp K H (.ref a) (.tuple (ns.map PyData.str)) := .tup h (dp_strs ns)
theorem namesL_dp {a : Addr} {ns : List Str} (h : SqL K H a (ns.map V.str)) : Dp K H (.ref a) (.list (ns.map PyData.str)) := .lst h (dp_strs ns)
end

/-! ### what may be compared: no dicts, not too deep -/
def Lay (n : Nat) (d : PyData) : Prop := d.canLay0 = true ∧ d.depth ≤ n
def Lays (n : Nat) (ds : List PyData) : Prop := PyData.canLayAll0 ds = true ∧ PyData.depthAll ds ≤ n
theorem lays_nil {n : Nat} : Lays n [] := ⟨rfl, Nat.zero_le _⟩
theorem lays_cons {n : Nat} {d : PyData} {ds : List PyData} (h : Lay n d) (t : Lays n ds) : Lays n (d :: ds) := by
  constructor
  · show (d.canLay0 && PyData.canLayAll0 ds) = true
    rw [h.1, t.1]
    rfl
  · show max d.depth (PyData.depthAll ds) ≤ n
    exact Nat.max_le.mpr ⟨h.2, t.2⟩
theorem lays_of {n : Nat} : ∀ {ds : List PyData}, (∀ d ∈ ds, Lay n d) → Lays n ds
  | [], _ => lays_nil
  | d :: ds, h => lays_cons (h d List.mem_cons_self) (lays_of fun x hx => h x (List.mem_cons_of_mem _ hx))
theorem lay_tuple {n : Nat} {ds : List PyData} (h : Lays n ds) : Lay (n + 1) (.tuple ds) := ⟨h.1, Nat.succ_le_succ h.2⟩
theorem lay_list {n : Nat} {ds : List PyData} (h : Lays n ds) : Lay (n + 1) (.list ds) := ⟨h.1, Nat.succ_le_succ h.2⟩
theorem lay_int {n : Nat} {i : Int} : Lay n (.int i) := ⟨rfl, Nat.zero_le _⟩
theorem lay_str {n : Nat} {s : Str} (h : PyData.strOk s = true) : Lay n (.str s) := ⟨h, Nat.zero_le _⟩
theorem lay_up {m n : Nat} {d : PyData} (h : Lay m d) (k : m ≤ n) : Lay n d := ⟨h.1, Nat.le_trans h.2 k⟩
theorem lays_up {m n : Nat} {ds : List PyData} (h : Lays m ds) (k : m ≤ n) : Lays n ds := ⟨h.1, Nat.le_trans h.2 k⟩
theorem lays_mem {n : Nat} : ∀ {ds : List PyData}, Lays n ds → ∀ d ∈ ds, Lay n d
  | d :: ds, h, x, hx => by
    have h1 : (d.canLay0 && PyData.canLayAll0 ds) = true := h.1
    have h2 : max d.depth (PyData.depthAll ds) ≤ n := h.2
    rw [Bool.and_eq_true] at h1
    rw [Nat.max_le] at h2
    rcases List.mem_cons.mp hx with e | e
    · rw [e]
      exact ⟨h1.1, h2.1⟩
    · exact lays_mem ⟨h1.2, h2.2⟩ x e
theorem lays_strs {n : Nat} {ns : List Str} (h : ∀ s ∈ ns, PyData.strOk s = true) : Lays n (ns.map PyData.str) := lays_of fun d hd => by
  obtain ⟨s, hs, rfl⟩ := List.mem_map.mp hd
  exact lay_str (h s hs)
theorem lays_ints {n : Nat} {ns : List Int} : Lays n (ns.map PyData.int) := lays_of fun d hd => by
  obtain ⟨s, _, rfl⟩ := List.mem_map.mp hd
  exact lay_int
theorem shape {n : Nat} {d : PyData} (h : Lay n d) (k : n ≤ 64) : SeqAt.shaped d = true := by
  unfold SeqAt.shaped
  rw [Bool.and_eq_true]
  exact ⟨h.1, decide_eq_true (Nat.le_trans h.2 k)⟩
theorem eq_refl {n : Nat} {d : PyData} (h : Lay n d) : PyData.eqv d d = true := SeqAt.eqv_refl d h.1

/-! ### strict order of lists of texts, and equal lists -/
def Asc (l : List Str) : Prop := l.Pairwise fun x y => x.cps.toList < y.cps.toList
theorem asc_of : ∀ {l : List Str}, sortedS l = true → l.Nodup → Asc l := by
  intro l h nd
  have key : ∀ (d i : Nat) (x y : Str), l[i]? = some x → l[i + (d + 1)]? = some y → x.cps.toList < y.cps.toList := by
    intro d
    induction d with
    | zero => exact fun i x y h1 h2 => sorted_at h nd h1 h2
    | succ d ih =>
      intro i x y h1 h2
      have hl : i + (d + 1) < l.length := by
        have := (List.getElem?_eq_some_iff.mp h2).1
        omega
      have h3 : l[i + (d + 1)]? = some l[i + (d + 1)] := List.getElem?_eq_getElem hl
      exact List.lt_trans (ih i x _ h1 h3) (sorted_at h nd h3 h2)
  refine List.pairwise_iff_getElem.mpr fun i j hi hj hij => ?_
  exact key (j - i - 1) i _ _ (List.getElem?_eq_getElem hi) (by rw [show i + (j - i - 1 + 1) = j by omega]; exact List.getElem?_eq_getElem hj)
theorem asc_nodup {l : List Str} (h : Asc l) : l.Nodup := List.Pairwise.imp (fun {x y} hxy e => by
  rw [e] at hxy
  exact List.lt_irrefl _ hxy) h
theorem asc_eq : ∀ {l m : List Str}, Asc l → Asc m → (∀ x, x ∈ l ↔ x ∈ m) → l = m
  | [], [], _, _, _ => rfl
  | [], y :: m, _, _, h => absurd ((h y).mpr List.mem_cons_self) (by simp)
  | x :: l, [], _, _, h => absurd ((h x).mp List.mem_cons_self) (by simp)
  | x :: l, y :: m, h1, h2, h => by
    obtain ⟨a1, a2⟩ := List.pairwise_cons.mp h1
    obtain ⟨b1, b2⟩ := List.pairwise_cons.mp h2
    have e : x = y := by
      rcases List.mem_cons.mp ((h x).mp List.mem_cons_self) with e | e
      · exact e
      · rcases List.mem_cons.mp ((h y).mpr List.mem_cons_self) with e' | e'
        · exact e'.symm
        · exact absurd (List.lt_trans (a1 y e') (b1 x e)) (List.lt_irrefl _)
    subst e
    have nl : x ∉ l := fun z => List.lt_irrefl _ (a1 x z)
    have nm : x ∉ m := fun z => List.lt_irrefl _ (b1 x z)
    rw [asc_eq a2 b2 fun z => ⟨fun hz => (List.mem_cons.mp ((h z).mp (List.mem_cons_of_mem _ hz))).resolve_left fun e => nl (e ▸ hz), fun hz => (List.mem_cons.mp ((h z).mpr (List.mem_cons_of_mem _ hz))).resolve_left fun e => nm (e ▸ hz)⟩]

/-! ### sorted(xs), xs tuples of ints of one length: some order -/
def rSortRows (K : PySem.W.Frag) : List V → Hp → VK → Prop := fun vs H Q => ∃ (a : Addr) (xs : List V) (d : Nat) (B : Int), vs = [V.ref a] ∧ SqL K H a xs ∧ xs.length < 64 ∧ (∀ x ∈ xs, ∃ ns, TupI K H x ns ∧ ns.length = d ∧ TS.Bd B ns) ∧ (d = 0 → xs.length ≤ 1) ∧
  ∀ (ys : List V) (p : Addr), ys.Perm xs → H p = none → Q (.ref p) (upd H p (.lst ys))
theorem cr_sortRows {X : Cx} : CallR X (.builtin "sorted") (rSortRows X.K) := by
  intro pins s σ H vs us Q I r h
  obtain ⟨a, xs, d, B, rfl, hs, h64, hx, h1, q⟩ := h
  by_cases hd : 1 ≤ d
  · exact cr_sortT hd pins s σ H _ us Q I r ⟨a, xs, rfl, hs, h64, hx, fun ys p pm _ n => q ys p pm n⟩
  · have hl1 : xs.length ≤ 1 := h1 (by omega)
    obtain ⟨its, rv, hl, hz⟩ := I.list hs
    have hlen := rv.length
    rw [Vals.ref1 r]
    refine Srt.sorted_any hl.isList (by rw [← hlen]; exact hz) (fun h2 => absurd h2 (by omega)) fun out hp => ?_
    have e : out = its := by
      match its, hlen, hp with
      | [], _, hp => exact hp.eq_nil
      | [v], _, hp => exact List.perm_singleton.mp hp
      | _ :: _ :: _, hlen, _ =>
        simp only [List.length_cons] at hlen
        omega
    subst e
    obtain ⟨ep, he'⟩ := PyProof.Rows.sortedAll_at s.heap out out.toArray
    exact ⟨.ref _, upd H (s.heap.objs.size + 1) (.lst xs), I.laid (t' := s.toks) (fun _ _ => PyProof.Rows.sortedAll_old) (Nat.le_succ _) ⟨hz, out, ep, rv, by simpa using he'⟩, rfl, q xs _ (List.Perm.refl _) (I.hok.fresh (Nat.le_succ _))⟩

/-! ### the room of a call for a comparison of data -/
theorem room {k : Nat} {A : Around} (r : Room k A) : A.units + 65 < cLine := by
  have := r.un
  omega

/-! ### a list or a tuple of data -/
theorem dp_seq {K : PySem.W.Frag} {H : Hp} {v : V} {ds : List PyData} (h : Dp K H v (.list ds) ∨ Dp K H v (.tuple ds)) : ∃ a xs, v = .ref a ∧ DpAll K H xs ds ∧ (SqL K H a xs ∨ SqT K H a xs) := by
  rcases h with h | h
  · obtain ⟨a, xs, rfl, s, t⟩ := dp_lst h
    exact ⟨a, xs, rfl, t, .inl s⟩
  · obtain ⟨a, xs, rfl, s, t⟩ := dp_tup h
    exact ⟨a, xs, rfl, t, .inr s⟩

/-! ### name = {k: v for ..} -/
section
variable {X : Cx}
theorem ps_setDc {i : Nat} {y : Str} {py : Pos} {kx vx tg iter : Expr} {ifs : List Expr} {scope : Scope} {own : List (Str × Nat)} {pos spos : Pos} {wi : TI} {g : TG} {tt : TT} {tk tv : TE} (hc : X.calm = true) (hN : X.N.Nodup) (hy : X.N[i]? = some y) (hyl : X.env.scope.names.lookup y = some .local)
    (hsw : swapsWith (.DictComp kx vx [⟨tg, iter, ifs, 0⟩] scope pos) (some (.Name y py)) spos.line X.env = pure true) (hi : PI X tg iter wi) (ok : BlkOk X.N X.env.scope scope own)
    (hg : ∀ (s : Shared) (H : Hp) (C : Addr) (cl : List (Str × Addr)) (fp : List Addr), PG (X.blk s H scope (compEnvC scope cl C X.env) fp) tg g) (ht : ∀ (s : Shared) (H : Hp) (C : Addr) (cl : List (Str × Addr)) (fp : List Addr), PTs (X.blk s H scope (compEnvC scope cl C X.env) fp) ifs tt)
    (hk : ∀ (s : Shared) (H : Hp) (C : Addr) (cl : List (Str × Addr)) (fp : List Addr), PE (X.blk s H scope (compEnvC scope cl C X.env) fp) kx tk)
    (he : ∀ (s : Shared) (H : Hp) (C : Addr) (cl : List (Str × Addr)) (fp : List Addr), PE (X.blk s H scope (compEnvC scope cl C X.env) fp) vx tv) (hs : ∀ x, foldedSetIterable iter X.env x = pure x := by intro _; rfl) :
    PS X (.Assign [.Name y py] (.DictComp kx vx [⟨tg, iter, ifs, 0⟩] scope pos) spos) (tAsg (tDc wi g tt tk tv (own.map (·.2))) (gName i)) := by
  refine ⟨fun pins s σ H D I h => ?_⟩
  rw [exec_Assign_Name_used _ _ _ _ hsw]
  refine wpAny_bind (wpAny_standAt (wpAny_bind ?_))
  show wpAny _ X.A (do let _ ← comprehension (.DictComp kx vx [⟨tg, iter, ifs, 0⟩] scope pos) scope X.env _ newDict false (eval iter X.env) (some (assign (.Name y py) X.env))) _ _ s
  have h : tDc wi g tt tk tv (own.map (·.2)) σ H (fun x H1 => gName i x σ H1 D.nx) := h
  refine wpAny_bind (thn (dc_core (Qf := fun _ s' => SP X pins D .next s') hc hN I hi ok hg ht hk he hs h fun L C s' m H' I' q hn f => ?_) fun _ s' hq => wpAny_pure (wpAny_pure hq))
  show wpAny _ _ (assign (.Name y py) X.env (.ref L)) _ _ _
  refine wpAny_assign_Name (store_ok2 (v := V.ref L) I' hN hy (.inl hyl) rfl (fun s2 I2 ⟨a, sb, ha⟩ => ?_) (.inr hyl))
  obtain ⟨f0, f1, f2, f3, f4, f5⟩ := f
  have haC : C ≠ a := by
    rcases ha with z | z
    · rw [z]; exact f1
    · exact fun e => f4 y a z e.symm
  refine ⟨m, hn.sameBut sb haC, fun h3 sb3 => ?_⟩
  exact ⟨_, H', I2.turned (t' := s2.toks) (fun b o hb e => (sb3.2 b hb).trans e) f0 f1 f3 f4 f5, q⟩
theorem sw_trueD {kx vx : Expr} {gs : List Comprehension} {scope : Scope} {pos py : Pos} {y : Str} {l : Nat} {env : Env} (hk : env.scope.kind = .function) (hy : env.scope.names.lookup y = some .local) (hl : (py.line == pos.line) = true)
    (ha : (scope.names.any fun (n, k) => n == y && (k == .local || k == .cell)) = false) : swapsWith (.DictComp kx vx gs scope pos) (some (.Name y py)) l env = pure true := by
  have ky : env.kindOf y = some .local := hy
  have hb : env.blockKind = .function := by unfold Env.blockKind; rw [hk]; rfl
  unfold swapsWith
  simp only [hb, ky, ha, Expr.pos, hl]
  rfl
end
end Dx
/-! Own errors with one field, whose __init__ says super().__init__(f'..'). -/
namespace Er
open PySem PySem.Spec PyProof.Rows L2 Bx TL Dx Sup NdefX
/-- __init__(self, y): the error at a gets a dict with f = y -/
def spErr (ok : V → Prop) (C : Addr) (f : Str) : Sp := fun vs H Q _ => ∃ (a : Addr) (v : V), vs = [.ref a, v] ∧ ok v ∧ H a = some (exo a C none) ∧
  ∀ (d : Addr) (H' : Hp), (∀ b o, b ≠ a → H b = some o → H' b = some o) → H d = none → d ≠ a → H' a = some (exo a C (some d)) → H' d = some (exd d [(f, v)]) → Q .non H'
/-- the class at C, named x: an own error over ValueError with one field -/
structure Err (P : Program) (w : World) (K : PySem.W.Frag) (mg : Str → Option Value) (base : Heap) (x : Str) (C : Addr) (f y : Str) (ok : V → Prop) (k : Nat) : Prop where
  init : ∃ (fI : Addr) (fd : FuncData), PySem.W.findIn K (.ref C) "__init__" = some (some (.ref fI)) ∧ PySem.W.typeIn K (.ref fI) = some (.type "function") ∧ FnOk P w K mg base CX0 k fI fd ["self", y] (spErr ok C f) ∧ Binds K fd ["self", y] []
  exc : OexC K C
  g : mg x = some (.ref C)
  te : PySem.W.exmOne K (.ref C) (.ref C) = some true
  xf : XfC K C
  no : PySem.W.findIn K (.ref C) f = some none
section
variable {X : Cx} {x : Str} {C : Addr} {f y : Str} {ok : V → Prop} {k : Nat} {e : Expr} {te : TE} {p pos pos' : Pos} {W : WX}
theorem ps_raiseE (c : Err X.prog X.w X.K X.mg X.base x C f y ok k) (hc : X.calm = true) (tk : Takes X W) (hr : Room (k + 1) X.A) (he : PE X e te) (hg : Gl X x := by rfl) (hdb : (x == ("__debug__" : Str)) = false := by decide)
    (hst : starEach [e] X.env = (false, eval e X.env) :: starEach [] X.env := by rfl) (hpl : (backTo pos (starEach [] X.env)).any (·.1) = false := by rfl) :
    PS X (.Raise (some (.Call (.Name x p) [e] [] pos)) none pos') (fun _ σ H => te σ H fun v H1 => ok v ∧ ∀ d H3, Same H1 H3 → H1 d = none → H3 d = some (.xd [(f, v)]) → W (.ref C) (some d) σ H3) := by
  obtain ⟨fI, fd, iC, tI, F1, hb⟩ := c.init
  have he2 : PE X e (fun σ H Q => ∃ R : VK, te σ H R ∧ ∀ v H1, R v H1 → Q v H1) := ⟨fun pins s σ H Q I ⟨R, h, hR⟩ => thn (he.run pins s σ H R I h) fun v s1 ⟨x, H1, I1, r, q⟩ => ⟨x, H1, I1, r, hR _ _ q⟩⟩
  have z := ps_raise (pos := pos') hc tk (pmk_oex (pos := pos) (p := p) (dvs := []) c.exc iC tI F1 hr hb .nil (pass0) hg c.g (pa_cons he2 pa_nil hst) hdb hst hpl)
  refine ⟨fun pins s σ H D I h => z.run pins s σ H D I ?_⟩
  refine ⟨_, h, fun v H1 hq => ?_⟩
  obtain ⟨hok, hw⟩ := hq
  refine ⟨by show 1 ≤ 1000; decide, fun a na => ⟨a, v, rfl, hok, upd_same, fun d H' keep nd da ea ed => ?_⟩⟩
  have nd1 : H1 d = none := by
    rw [upd_ne da] at nd
    exact nd
  refine ⟨rfl, d, _, ea, ed, nd1, hw d _ (fun b o e => ?_) nd1 upd_same⟩
  have ba : b ≠ a := ne_of_none e na
  rw [upd_ne (ne_of_none e nd1), del_ne ba]
  exact keep b o ba (by rw [upd_ne ba]; exact e)
end
/-! ### isinstance of an error with a dict -/
def rIsD (K : PySem.W.Frag) (a : Addr) (cls : Value) (d : Option Addr) : List V → Hp → VK → Prop := fun xs H Q => ∃ (D dd : Addr) (c : V) (cv : Value) (b : Bool) (fs : List (Str × V)), xs = [.ref a, c] ∧ cls = .ref D ∧ d = some dd ∧ (PySem.W.clsIn K D).isSome = true ∧ ExcC K D ∧
  H dd = some (.xd fs) ∧ (∀ u, RelV c u → u = cv) ∧ PySem.W.kitOne K (.ref D) cv = some b ∧ Q (.bl b) H
theorem call_isD {X : Cx} {a : Addr} {cls : Value} {d : Option Addr} {oe : Obj} {pn : List (Addr × Obj)} (hz : Zc cls d oe) (hf : ∃ vs, oe.data = .fields vs) : CallR (X.suite a ((a, oe) :: pn)) (.builtin "isinstance") (rIsD X.K a cls d) := by
  intro pins s σ H xs us Q I r h
  obtain ⟨D, dd, c, cv, b, fs, rfl, rfl, rfl, hcl, C, hdd, hcv, e, q⟩ := h
  cases r with
  | cons rx rr =>
    cases rr with
    | cons rt rr =>
      cases rr
      cases rx
      have ec := hcv _ rt
      subst ec
      obtain ⟨hget, _⟩ := I.pin (a, oe) (List.mem_append.mpr (.inl List.mem_cons_self))
      obtain ⟨vs, hv⟩ := hf
      obtain ⟨oD, hD⟩ : ∃ o, s.heap.get? dd = some o := by
        obtain ⟨mA, hn, _⟩ := I.hok dd _ hdd
        obtain ⟨o, _, _, e, _⟩ := hn
        exact ⟨o, e⟩
      have J : PySem.W.InstAt s.heap a oe D (some oD) := by
        obtain ⟨oc, od, oda, osl⟩ := oe
        obtain ⟨h1, h2⟩ := hz
        dsimp only at h1 h2 hv
        subst h1 h2 hv
        exact ⟨hget, rfl, rfl, hD⟩
      exact PySem.W.kia_one (PySem.W.kitx_exc hcl C.hg C.hk C.hs C.ha C.hn C.ht C.hm) I.kIn J e (fun z => nomatch z) fun tk => ⟨.bl b, H, I.kept (t' := tk) fun _ _ z => z, rfl, q⟩
/-! ### calls of defs that may raise -/
section
variable {X : Cx} {CX : CXT} {k n : Nat} {f : Addr} {fd : FuncData} {ps ks : List Str} {sp : Sp} {E : L2.St → XK} {x : Str} {p pos : Pos} {e : Expr} {es : List Expr} {kws : List Keyword} {t tk : TA} {g : List Value → List Value → List Value} {gV : List V → List V → List V}
theorem run_fnNS {pins : List (Addr × Obj)} {σ : L2.St} {H : Hp} {s : Shared} {Q : VK} {us ws : List Value} {vs zs : List V} (F : FnOk X.prog X.w X.K X.mg X.base CX k f fd ps sp) (hr : Room k X.A) (hb : KBn X.K fd ps n ks g gV) (hx : PassesAt CX X σ (E σ))
    (I : Inv X pins σ H s) (r : Vals vs us) (rz : Vals zs ws) (l1 : vs.length = n) (l2 : zs.length = ks.length) (h : sp (gV vs zs) H Q (E σ)) : wpAny (model X.prog X.w) X.A (call (.ref f) us (ks.zip ws)) (EP X pins σ Q) X.xe s := by
  refine wpAny_call (codeAny_mono (F.run X.A X.stack s H ⟨us, ks.zip ws⟩ (g us ws) (gV vs zs) Q (E σ) hr I.env0 (hb.to s us ws I.kIn (by rw [← r.length]; exact l1) (by rw [← rz.length]; exact l2)) (hb.rel r rz) h) fun r s' hq => ?_)
  cases r with
  | error e => exact hx pins H s e s' I hq
  | ok fl =>
    cases fl with
    | ret u => exact I.after hq
    | next => exact False.elim hq
    | brk => exact False.elim hq
    | cont => exact False.elim hq
def tCallNS (n m : Nat) (sp : Sp) (gV : List V → List V → List V) (E : L2.St → XK) (t tk : TA) : TE := fun σ H Q => t σ H fun vs H1 => tk σ H1 fun zs H2 => vs.length = n ∧ zs.length = m ∧ sp (gV vs zs) H2 Q (E σ)
theorem pe_callNS (F : FnOk X.prog X.w X.K X.mg X.base CX k f fd ps sp) (hr : Room k X.A) (hg : Gl X x) (hm : X.mg x = some (.ref f)) (hk : PySem.W.keepIn X.K (.ref f) = true) (hb : KBn X.K fd ps n ks g gV) (hx : ∀ σ, PassesAt CX X σ (E σ))
    (ha : PA X (e :: es) t) (hkw : PK X kws tk) (hall : (backToKw pos (keywordEach kws X.env)).all (·.1.isSome) = true := by rfl) (hks : (backToKw pos (keywordEach kws X.env)).filterMap (·.1) = ks := by rfl)
    (hdb : (x == ("__debug__" : Str)) = false := by decide) (he : starEach (e :: es) X.env = (false, eval e X.env) :: starEach es X.env := by rfl)
    (hpl : ((backTo pos (starEach (e :: es) X.env)).any (·.1) || (backToKw pos (keywordEach kws X.env)).any (·.1.isNone)) = false := by rfl) :
    PE X (.Call (.Name x p) (e :: es) kws pos) (tCallNS n ks.length sp gV E t tk) := by
  refine ⟨fun pins s σ H Q I h => ?_⟩
  refine wpAny_Call_Name_kw (ld_glob I hg hm ?_ hdb)
  refine PySem.W.callWith_KW (h₀ := X.base) I.ok.mod.kin hk hall (thn (ha.run pos pins s σ H _ I h) fun us s1 ⟨vs, H1, I1, r, q⟩ => ?_) hpl he
  refine thn (hkw.run pos pins s1 σ H1 _ I1 q) fun ws s2 ⟨zs, H2, I2, rz, l1, l2, q2⟩ => ⟨I2.kIn, ?_⟩
  rw [hks]
  exact run_fnNS F hr hb (hx σ) I2 r rz l1 l2 q2
/-- the module's name x holds a def of one parameter and a keyword-only one with a default; it may raise -/
structure CalX (P : Program) (w : World) (K : PySem.W.Frag) (mg : Str → Option Value) (base : Heap) (x y : Str) (k : Nat) (ps : List Str) (dv : V) (sp : Sp) : Prop where
  ex : ∃ (f : Addr) (fd : FuncData), FnOk P w K mg base (L2.CX P w) k f fd ps sp ∧ mg x = some (.ref f) ∧ PySem.W.keepIn K (.ref f) = true ∧ (∃ ds, Vals [dv] ds ∧ Binds K fd ps ds) ∧ KBn K fd ps 1 [y] (fun us ws => us ++ ws) (fun vs zs => vs ++ zs)
variable {y : Str} {dv : V} {W : WX} {tk1 : TA}
def tCalX (sp : Sp) (dv : V) (W : WX) (t : TA) : TE := fun σ H Q => t σ H fun vs H1 => sp (vs ++ [dv]) H1 Q (fun cls d H' => W cls d σ H')
def tCalXK (sp : Sp) (W : WX) (t tk : TA) : TE := fun σ H Q => t σ H fun vs H1 => tk σ H1 fun zs H2 => vs.length = 1 ∧ zs.length = 1 ∧ sp (vs ++ zs) H2 Q (fun cls d H' => W cls d σ H')
theorem pe_calX (c : CalX X.prog X.w X.K X.mg X.base x y k ps dv sp) (tkW : Takes X W) (hr : Room k X.A) (ha : PA X (e :: es) t) (hg : Gl X x := by rfl) (hdb : (x == ("__debug__" : Str)) = false := by decide)
    (he : starEach (e :: es) X.env = (false, eval e X.env) :: starEach es X.env := by rfl) (hpl : (backTo pos (starEach es X.env)).any (·.1) = false := by rfl) : PE X (.Call (.Name x p) (e :: es) [] pos) (tCalX sp dv W t) := by
  obtain ⟨f, fd, ok, hm, kp, ⟨ds, hv, hb⟩, _⟩ := c.ex
  have z := pe_callSD (E := fun σ cls d H' => W cls d σ H') ok hr hg hm kp hb hv (fun σ => passAt tkW σ) ha hdb he hpl (p := p)
  exact ⟨fun pins s σ H Q I h => z.run pins s σ H Q I h⟩
theorem pe_calXK (c : CalX X.prog X.w X.K X.mg X.base x y k ps dv sp) (tkW : Takes X W) (hr : Room k X.A) (ha : PA X (e :: es) t) (hkw : PK X kws tk1) (hg : Gl X x := by rfl) (hall : (backToKw pos (keywordEach kws X.env)).all (·.1.isSome) = true := by rfl) (hks : (backToKw pos (keywordEach kws X.env)).filterMap (·.1) = [y] := by rfl)
    (hdb : (x == ("__debug__" : Str)) = false := by decide) (he : starEach (e :: es) X.env = (false, eval e X.env) :: starEach es X.env := by rfl)
    (hpl : ((backTo pos (starEach (e :: es) X.env)).any (·.1) || (backToKw pos (keywordEach kws X.env)).any (·.1.isNone)) = false := by rfl) : PE X (.Call (.Name x p) (e :: es) kws pos) (tCalXK sp W t tk1) := by
  obtain ⟨f, fd, ok, hm, kp, _, hb⟩ := c.ex
  have z := pe_callNS (E := fun σ cls d H' => W cls d σ H') ok hr hg hm kp hb (fun σ => passAt tkW σ) ha hkw hall hks hdb he hpl (p := p)
  exact ⟨fun pins s σ H Q I h => z.run pins s σ H Q I h⟩
end
end Er
/-! zip of two tuples, walked; great products and quotients; xs[::-1]. -/
namespace Zx
open PySem PySem.Spec PyProof.Rows L2 Bx TL Dx
theorem walk_zipT {K : PySem.W.Frag} {a b : Addr} {xs ys : List V} {n : Nat} (hn : n = min xs.length ys.length) : Walk (RZ.ItzT K a b) n (fun H => SqT K H a xs ∧ SqT K H b ys) (YPair (fun i => xs[i]?) (fun i => ys[i]?)) := by
  subst hn
  refine ⟨fun i _ hi q => ?_, fun _ q => ⟨xs, ys, q.1, q.2, by omega⟩, fun i H v H' _ q y => ?_⟩
  · have h1 : i < xs.length := by omega
    have h2 : i < ys.length := by omega
    exact ⟨xs, ys, xs[i], ys[i], q.1, q.2, by simp [h1], by simp [h2]⟩
  · obtain ⟨T, x, z, h1, h2, h3, h4, h5⟩ := y
    exact ⟨T, x, z, h1, h2, h3, h4 xs q.1, h5 ys q.2⟩
end Zx
namespace Zx
open PySem PySem.Spec PyProof.Rows L2
theorem ne_t {p : Prop} [Decidable p] (h : (!decide p) = true) : ¬ p := by simpa using h
theorem ne_f {p : Prop} [Decidable p] (h : ¬ (!decide p) = true) : p := by simpa using h
theorem int_t {x y : Int} (h : decide (V.int x = V.int y) = true) : x = y := V.int.inj (of_decide_eq_true h)
theorem int_f {x y : Int} (h : ¬ decide (V.int x = V.int y) = true) : x ≠ y := fun e => h (decide_eq_true (congrArg V.int e))
theorem int_nt {x y : Int} (h : (!decide (V.int x = V.int y)) = true) : x ≠ y := fun e => ne_t h (congrArg V.int e)
theorem int_nf {x y : Int} (h : ¬ (!decide (V.int x = V.int y)) = true) : x = y := V.int.inj (ne_f h)
end Zx
namespace Zx
open PySem PySem.Spec PyProof.Rows L2 Bx
section
variable {K : PySem.W.Frag}
theorem ty_tup {H : Hp} {a : Addr} {xs : List V} (h : SqT K H a xs) : TyX K H (.ref a) (.type "tuple") := by
  rcases h with (h | ⟨o, h⟩) | h
  · exact .base (.tup h)
  · exact .fTuple h
  · obtain ⟨o, its, n, h1, h2, _⟩ := h
    exact .kTuple h1 h2
def spRight : Sp := fun vs H Q _ => ∃ a : Addr, vs = [.ref a] ∧ Src H a ∧ ∀ H', SameBut a H H' → Q (.bl true) H'
end
end Zx
namespace Zx
open PySem PySem.Spec PyProof.Rows L2 Bx
theorem cont_of {α : Type} {R X : α → Prop} {G : Prop} (first : (∀ a, R a → X a) → G) (rest : ∀ a, R a → X a) : G := first rest
theorem cont_of2 {α β : Type} {R X : α → β → Prop} {G : Prop} (first : (∀ a b, R a b → X a b) → G) (rest : ∀ a b, R a b → X a b) : G := first rest
theorem but_new {a : Addr} {H H3 : Hp} {p : Addr} {o : HO} (h : H p = none) (s : SameBut a (upd H p o) H3) : SameBut a H H3 := fun b x n e => s b x n (by rw [upd_ne (ne_of_none e h)]; exact e)
theorem but_at {a : Addr} {H H2 : Hp} {p : Addr} {o : HO} (h : H p = none) (s : SameBut a H H2) : SameBut a H (upd H2 p o) := fun b x n e => by
  rw [upd_ne (ne_of_none e h)]
  exact s b x n e
theorem src_same {a : Addr} {H1 H2 : Hp} (s : Src H1 a) (t : Same H1 H2) : Src H2 a := by
  obtain ⟨n, c, h⟩ := s
  exact ⟨n, c, t _ _ h⟩
theorem src_ne {a o : Addr} {H : Hp} (s : Src H a) (h : H o = none) : a ≠ o := by
  obtain ⟨n, c, z⟩ := s
  exact ne_of_none z h
theorem but_free {a o : Addr} {H H1 : Hp} (s : SameBut a H H1) (n : o ≠ a) (h : H1 o = none) : H o = none := by
  cases e : H o with
  | none => rfl
  | some x =>
    rw [s o x n e] at h
    cases h
theorem src_upd {a o : Addr} {H : Hp} {u : HO} (s : Src H a) (n : a ≠ o) : Src (upd H o u) a := by
  obtain ⟨x, c, h⟩ := s
  exact ⟨x, c, by rw [upd_ne n]; exact h⟩

end Zx
namespace Zx
open PySem PySem.Spec PyProof.Rows L2 Bx
theorem set_same {σ : L2.St} {i : Nat} {v : V} (h : σ[i]? = some (some v)) : σ.set i (some v) = σ := by
  obtain ⟨hi, e⟩ := List.getElem?_eq_some_iff.mp h
  rw [← e]
  exact List.set_getElem_self hi
/-- if c: name = e -/
theorem if_asg {c : Prop} [Decidable c] {te : TE} {i : Nat} {D : Ends} {σ : L2.St} {H : Hp} {old : V} (R : V → Hp → Prop) (hi : σ[i]? = some (some old))
    (h1 : c → ∀ Z : V → Hp → Prop, (∀ v H', R v H' → Z v H') → te σ H Z) (h2 : ¬ c → R old H) (rest : ∀ v H', R v H' → D.nx (σ.set i (some v)) H') : if c then tAsg te (gName i) D σ H else tNext D σ H := by
  split
  · rename_i h
    exact h1 h (fun v H' => D.nx (σ.set i (some v)) H') rest
  · rename_i h
    have := rest old H (h2 h)
    rw [set_same hi] at this
    exact this
/-- if c: name = e else: name = f -/
theorem if_asg2 {c : Prop} [Decidable c] {te tf : TE} {i : Nat} {D : Ends} {σ : L2.St} {H : Hp} (R : V → Hp → Prop)
    (h1 : c → ∀ Z : V → Hp → Prop, (∀ v H', R v H' → Z v H') → te σ H Z) (h2 : ¬ c → ∀ Z : V → Hp → Prop, (∀ v H', R v H' → Z v H') → tf σ H Z) (rest : ∀ v H', R v H' → D.nx (σ.set i (some v)) H') : if c then tAsg te (gName i) D σ H else tAsg tf (gName i) D σ H := by
  split
  · rename_i h
    exact h1 h (fun v H' => D.nx (σ.set i (some v)) H') rest
  · rename_i h
    exact h2 h (fun v H' => D.nx (σ.set i (some v)) H') rest
end Zx
/-! Own classes: methods that operators and built-ins call. -/
namespace Ow
open PySem PySem.Spec PyProof.Rows L2 Bx TL Dx Zx
/-- the class at C (or one above it) has the method m, a def that keeps sp -/
structure OwM (P : Program) (w : World) (K : PySem.W.Frag) (mg : Str → Option Value) (base : Heap) (CX : CXT) (C : Addr) (m : Str) (k : Nat) (ps : List Str) (sp : Sp) : Prop where
  ex : ∃ (f : Addr) (fd : FuncData), FnOk P w K mg base CX k f fd ps sp ∧ PySem.W.findIn K (.ref C) m = some (some (.ref f)) ∧ PySem.W.isFn K (.ref f) = true ∧ PySem.W.keepIn K (.ref f) = true ∧ Binds K fd ps []
section
variable {X : Cx} {pins : List (Addr × Obj)} {σ : L2.St} {H : Hp} {s : Shared} {C a dx : Addr} {fs : List (Str × V)}
/-- an instance as the library's operators see it -/
theorem inst_of (I : Inv X pins σ H s) (e : H a = some (.ins C dx fs)) : ∃ od, PySem.W.InstAt s.heap a (PySem.W.instObj C dx) C (some od) := by
  obtain ⟨mA, J, _⟩ := ins_get I.hok e
  obtain ⟨od, J2, _⟩ := J.look
  exact ⟨od, J2⟩
/-- a def is called, somewhere within -/
theorem call_at {CX : CXT} {k : Nat} {f : Addr} {fd : FuncData} {ps : List Str} {sp : Sp} {A1 : Around} {us : List Value} {vs : List V} {Q : VK} {E : XK} {E1 : Value → Shared → Prop} (sb : Sub X k A1) (ok : FnOk X.prog X.w X.K X.mg X.base CX k f fd ps sp) (b : Binds X.K fd ps [])
    (I : Inv X pins σ H s) (r : Vals vs us) (hsp : sp vs H Q E) (hx : ∀ e s', CX X.stack H s E e s' → E1 e s') : wpAny (model X.prog X.w) A1 (call (.ref f) us) (EP X pins σ Q) E1 s := by
  have z0 := I.env0
  have e0 : Env0 X.prog X.w X.K X.mg X.base A1 X.stack s H := ⟨by rw [sb.fr]; exact z0.frames, z0.mod, z0.bs, z0.bsz, z0.funs, z0.frf, z0.hok, z0.bare⟩
  have n1 := ok.len _ _ _ _ hsp
  have n2 : us.length = ps.length := by rw [← r.length]; exact n1
  have bb := b s us I.kIn (by rw [List.append_nil]; exact n2)
  rw [List.append_nil] at bb
  refine wpAny_call (codeAny_mono (ok.run A1 X.stack s H ⟨us, []⟩ us vs Q E sb.room e0 bb r hsp) fun res s' back => ?_)
  match res, back with
  | .error e, back => exact hx e s' back
  | .ok (.ret u), back => exact I.after back
  | .ok .next, back => exact back.elim
  | .ok .brk, back => exact back.elim
  | .ok .cont, back => exact back.elim
theorem sub_self {n : Nat} (hr : Room n X.A) : Sub X n X.A := ⟨hr, rfl⟩
/-- len(o) -/
def rLenO (C : Addr) (sp : Sp) : List V → Hp → VK → Prop := fun xs H Q => ∃ a dx fs, xs = [.ref a] ∧ H a = some (.ins C dx fs) ∧ sp [.ref a] H (fun v H' => ∃ n : Nat, v = .int (n : Int) ∧ n < 2 ^ 62 ∧ Q (.int (n : Int)) H') E0
theorem call_lenO {k : Nat} {ps : List Str} {sp : Sp} (c : OwM X.prog X.w X.K X.mg X.base CX0 C "__len__" k ps sp) (hr : Room (k + 1) X.A) : CallR X (.builtin "len") (rLenO C sp) := by
  intro pins s σ H xs us Q I r h
  obtain ⟨a, dx, fs, rfl, ha, hsp⟩ := h
  obtain ⟨f, fd, ok, hs, hf, _, hb⟩ := c.ex
  obtain ⟨od, J⟩ := inst_of I ha
  obtain ⟨m, hF⟩ := I.fr
  have r0 := r
  cases r with
  | cons r1 r2 =>
    cases r2
    cases r1
    refine PySem.W.len_K hF I.ok.mod.kin J hs hf ?_
    refine wpAny_mono (call_at ((sub_self hr).in1) ok hb I r0 hsp (fun e s' z => z.elim)) (fun u s' hu => ?_) (fun _ _ z => z)
    obtain ⟨v, H', I', rv, n, rfl, hn, hq⟩ := hu
    obtain ⟨t, rfl⟩ := rv
    exact ⟨⟨by omega, by omega⟩, .int n, H', I'.tok _, ⟨_, rfl⟩, hq⟩
/-- x in o, x not in o -/
def rInO (C : Addr) (sp : Sp) (neg : Bool) : V → V → Hp → VK → Prop := fun x y H Q => ∃ a dx fs, y = .ref a ∧ H a = some (.ins C dx fs) ∧ sp [.ref a, x] H (fun v H' => ∃ b : Bool, v = .bl b ∧ Q (.bl (b != neg)) H') E0
theorem truth_bl {M : Model} {A : Around} {E : Value → Shared → Prop} {s : Shared} {b : Bool} {Q : Bool → Shared → Prop} (h : Q b s) : wpAny M A (truthy (.bool b)) Q E s := by
  unfold truthy
  exact wpAny_pure h
theorem op_inO {k : Nat} {ps : List Str} {sp : Sp} (c : OwM X.prog X.w X.K X.mg X.base CX0 C "__contains__" k ps sp) (hr : Room k X.A) : OpR X (compareOp .In) (rInO C sp false) := by
  intro pins s σ H x y u v Q I rx ry h
  obtain ⟨a, dx, fs, rfl, ha, hsp⟩ := h
  obtain ⟨f, fd, ok, hs, hf, _, hb⟩ := c.ex
  obtain ⟨od, J⟩ := inst_of I ha
  obtain ⟨m, hF⟩ := I.fr
  cases ry
  refine PySem.W.in_K hF I.ok.mod.kin J hs hf ?_
  refine wpAny_mono (call_at (sub_self hr) ok hb I (vs := [.ref a, x]) (.cons rfl (.cons rx .nil)) hsp (fun e s' z => z.elim)) (fun u s' hu => ?_) (fun _ _ z => z)
  obtain ⟨v, H', I', rv, b, rfl, hq⟩ := hu
  cases rv
  refine truth_bl ⟨.bl b, H', I', rfl, ?_⟩
  rw [show (b != false) = b by cases b <;> rfl] at hq
  exact hq
theorem op_notInO {k : Nat} {ps : List Str} {sp : Sp} (c : OwM X.prog X.w X.K X.mg X.base CX0 C "__contains__" k ps sp) (hr : Room k X.A) : OpR X (compareOp .NotIn) (rInO C sp true) := by
  intro pins s σ H x y u v Q I rx ry h
  obtain ⟨a, dx, fs, rfl, ha, hsp⟩ := h
  obtain ⟨f, fd, ok, hs, hf, _, hb⟩ := c.ex
  obtain ⟨od, J⟩ := inst_of I ha
  obtain ⟨m, hF⟩ := I.fr
  cases ry
  refine PySem.W.notIn_K hF I.ok.mod.kin J hs hf ?_
  refine wpAny_mono (call_at (sub_self hr) ok hb I (vs := [.ref a, x]) (.cons rfl (.cons rx .nil)) hsp (fun e s' z => z.elim)) (fun u s' hu => ?_) (fun _ _ z => z)
  obtain ⟨v, H', I', rv, b, rfl, hq⟩ := hu
  cases rv
  refine truth_bl ⟨.bl (!b), H', I', rfl, ?_⟩
  rw [show (b != true) = !b by cases b <;> rfl] at hq
  exact hq
end
end Ow
/-! Own classes: o[i], o op x, loops over o. -/
namespace Ow
open PySem PySem.Spec PyProof.Rows L2 Bx TL Dx Zx ItX
/-! ### o[i] -/
section
variable {X : Cx} {C : Addr} {CXc : CXT} {k : Nat} {ps : List Str} {sp : Sp} {W : WX} {a b : Expr} {ta tb : TE} {pos : Pos}
def tSubO (C : Addr) (sp : Sp) (W : WX) (ta tb : TE) : TE := fun σ H Q => ta σ H fun x H1 => tb σ H1 fun y H2 => ∃ p dx fs, x = .ref p ∧ H2 p = some (.ins C dx fs) ∧ sp [.ref p, y] H2 Q (fun cls d H' => W cls d σ H')
theorem pe_subO (c : OwM X.prog X.w X.K X.mg X.base CXc C "__getitem__" k ps sp) (fi : ∀ f, PySem.W.findIn X.K (.ref C) "__getitem__" = some (some (.ref f)) → PySem.W.fnIn X.K f = true) (hr : Room (k + 1) X.A) (hx : ∀ σ, PassesAt CXc X σ (fun cls d H' => W cls d σ H')) (ha : PE X a ta) (hb : PE X b tb)
    (hs : ∀ v u, subscripted b true v u = runValue (.builtin "lifetime.subscript" ⟨[v, u], []⟩) := by intro _ _; rfl) : PE X (.Subscript a b pos) (tSubO C sp W ta tb) := by
  refine ⟨fun pins s σ H Q I h => ?_⟩
  refine Subscript_ (binT ha hb I (R := fun x y H2 => ∃ p dx fs, x = .ref p ∧ H2 p = some (.ins C dx fs) ∧ sp [.ref p, y] H2 Q (fun cls d H' => W cls d σ H')) h fun v u s2 x y H2 I2 rx ry q => ?_)
  obtain ⟨p, dx, fs, rfl, hp, hsp⟩ := q
  obtain ⟨f, fd, ok, hfi, hf, _, hbd⟩ := c.ex
  obtain ⟨od, J⟩ := inst_of I2 hp
  obtain ⟨m, hF⟩ := I2.fr
  cases rx
  refine PySem.W.sub_K hF I2.ok.mod.kin J hfi (fi f hfi) hf ?_ (hs _ _)
  exact call_at ((sub_self hr).in1) ok hbd I2 (vs := [.ref p, y]) (.cons rfl (.cons ry .nil)) hsp (fun e s' z => hx σ pins H2 s2 e s' I2 z)
end
/-! ### o op x, x of a built-in type -/
/-- what the written part says of an operator of C with a second operand of the built-in type T -/
structure BinF (K : PySem.W.Frag) (C : Addr) (op : Operator) (T : String) : Prop where
  first : PySem.W.selfFirst K C = true
  refl : ∃ rc, PySem.W.findIn K (.ref C) (dunderR op.info.2) = some rc ∧ (rc = none ∨ ∃ g : Addr, rc = some (.ref g))
  t1 : ∃ fo, PySem.W.findIn K (.type T) (PySem.dunder op.info.2) = some fo
  t2 : ∃ ro, PySem.W.findIn K (.type T) (dunderR op.info.2) = some ro
  sub : PySem.W.subIn K (.type T) (.ref C) = some false
/-- the type of a value, looked at -/
def LkT (M : Model) (h : Heap) (v : Value) (T : String) : Prop := PySem.W.Looks M h (typeOf v) (.type T)
theorem bin_looks {prog : Program} {w : World} {A : Around} {E : Value → Shared → Prop} {s : Shared} {K : PySem.W.Frag} {x C f : Addr} {ox : Obj} {od : Option Obj} {T : String} {op : Operator} {b : Value} {Q : Value → Shared → Prop}
    (X : K.In s.heap) (I : PySem.W.InstAt s.heap x ox C od) (B : BinF K C op T) (hb : LkT (model prog w) s.heap b T) (hs : PySem.W.findIn K (.ref C) (PySem.dunder op.info.2) = some (some (.ref f))) (hf : PySem.W.isFn K (.ref f) = true)
    (h : wpAny (model prog w) A (call (.ref f) [.ref x, b]) (PySem.W.CmpBack Q) E s) : wpAny (model prog w) A (binaryOp op (.ref x) b) Q E s := by
  obtain ⟨hc, ⟨rc, hrc, hrp⟩, ⟨fo, h1⟩, ⟨ro, h2⟩, hsub⟩ := B
  obtain ⟨cd, rest, hcd, hm⟩ := PySem.W.ksp_first hc
  cases hi : op.info with
  | mk sym nm =>
    rw [hi] at hs hrc h1 h2
    dsimp only at hs hrc h1 h2
    have called := PySem.W.ksp_try X I hs hf h
    have d1 : PySem.W.Looks (model prog w) s.heap (typeOf (.ref x)) (.ref C) := I.type
    have d3 : PySem.W.Looks (model prog w) s.heap (fillsNumberSlot (.ref C) nm) true := PySem.W.fills_K X hcd hm hs
    have d4 := PySem.W.ksp_fillsT (M := model prog w) X h1 h2
    have d5 : PySem.W.Looks (model prog w) s.heap (isSubtype (.type T) (.ref C)) false := PySem.W.looks_subIn X hsub
    have d6 : PySem.W.Looks (model prog w) s.heap (numberSlotInPython (.ref C) nm) true := PySem.W.ksp_inPy X hs hrc hrp
    have d7 : PySem.W.Looks (model prog w) s.heap (numberSlotInPython (.type T) nm) false := PySem.W.Looks.of_pure rfl
    have d8 : PySem.W.Looks (model prog w) s.heap (typeLookup (.type T) (dunderR nm)) ro := PySem.W.looks_findIn X h2
    unfold LkT at hb
    clear X I hs hf h
    obtain ⟨hp, g, dd, tt, os⟩ := s
    generalize ((fo.isSome && !isSeqSlot fo) || (ro.isSome && !isSeqSlot ro)) = right at d4
    have other : (Value.ref C == Value.type T) = false := by
      cases z : (Value.ref C == Value.type T) with
      | false => rfl
      | true => cases beq_iff_eq.mp z
    simp only [binaryOp, hi]
    refine wpAny_holding (wpAny_bind ?_)
    unfold binaryOp1
    refine wpAny_bind (d1.at (wpAny_bind ?_))
    refine hb.at (wpAny_bind (d3.at ?_))
    simp only [other, Bool.false_eq_true, if_false]
    cases right
    · ksp_lk
      refine wpAny_mono called (fun r s' z => ?_) fun _ _ e => e
      obtain ⟨v, rfl, z⟩ := z
      ksp_lk
      exact z
    · ksp_lk
      refine wpAny_mono called (fun r s' z => ?_) fun _ _ e => e
      obtain ⟨v, rfl, z⟩ := z
      ksp_lk
      exact z
end Ow
namespace Ow
open PySem PySem.Spec PyProof.Rows L2 Bx TL Dx Zx ItX
section
variable {X : Cx} {pins : List (Addr × Obj)} {σ : L2.St} {H : Hp} {s : Shared}
/-- the built-in types of second operands -/
inductive TyO (K : PySem.W.Frag) (H : Hp) : V → String → Prop
  | int (i : Int) : TyO K H (.int i) "int"
  | str (z : Str) : TyO K H (.str z) "str"
  | tup {p : Addr} {xs : List V} (h : SqT K H p xs) : TyO K H (.ref p) "tuple"
theorem lk_of {y : V} {v : Value} {T : String} (I : Inv X pins σ H s) (r : RelV y v) (t : TyO X.K H y T) : LkT (model X.prog X.w) s.heap v T := by
  cases t with
  | int i =>
    obtain ⟨u, rfl⟩ := r
    exact PySem.W.Looks.of_pure rfl
  | str z =>
    obtain ⟨u, rfl⟩ := r
    exact PySem.W.Looks.of_pure rfl
  | tup h =>
    cases r
    obtain ⟨its, rv, ht, _⟩ := I.tuple h
    obtain ⟨o, ho, hc, _⟩ := ht
    unfold LkT
    rw [← hc]
    exact (PySem.W.Looks.ld ho).andThen .now
theorem back_ep {Q : VK} {u : Value} {s' : Shared} (h : EP X pins σ Q u s') : PySem.W.CmpBack (EP X pins σ Q) u s' := by
  obtain ⟨v, H', I', r, q⟩ := h
  have h2 : EP X pins σ Q u s' := ⟨v, H', I', r, q⟩
  cases v with
  | non => cases r; exact h2
  | bl b => cases r; exact h2
  | int i => obtain ⟨t, rfl⟩ := r; exact h2
  | str z => obtain ⟨t, rfl⟩ := r; exact h2
  | byt b => obtain ⟨t, rfl⟩ := r; exact h2
  | flt b => obtain ⟨t, rfl⟩ := r; exact h2
  | ref a => cases r; exact h2
  | ty n => cases r; exact h2
end
section
variable {X : Cx} {C : Addr} {CXc : CXT} {k : Nat} {ps : List Str} {sp : Sp} {W : WX} {a b : Expr} {ta tb : TE} {pos : Pos} {op : Operator} {T m : String}
def tBinO (K : PySem.W.Frag) (C : Addr) (T : String) (sp : Sp) (W : WX) (ta tb : TE) : TE := fun σ H Q => ta σ H fun x H1 => tb σ H1 fun y H2 => ∃ p dx fs, x = .ref p ∧ H2 p = some (.ins C dx fs) ∧ TyO K H2 y T ∧ sp [.ref p, y] H2 Q (fun cls d H' => W cls d σ H')
theorem pe_binO (c : OwM X.prog X.w X.K X.mg X.base CXc C (PySem.dunder op.info.2) k ps sp) (B : BinF X.K C op T) (hr : Room k X.A) (hx : ∀ σ, PassesAt CXc X σ (fun cls d H' => W cls d σ H')) (ha : PE X a ta) (hb : PE X b tb) : PE X (.BinOp a op b pos) (tBinO X.K C T sp W ta tb) := by
  refine ⟨fun pins s σ H Q I h => ?_⟩
  refine wpAny_BinOp (binT ha hb I (R := fun x y H2 => ∃ p dx fs, x = .ref p ∧ H2 p = some (.ins C dx fs) ∧ TyO X.K H2 y T ∧ sp [.ref p, y] H2 Q (fun cls d H' => W cls d σ H')) h fun v u s2 x y H2 I2 rx ry q => ?_)
  obtain ⟨p, dx, fs, rfl, hp, ht, hsp⟩ := q
  obtain ⟨f, fd, ok, hfi, hf, _, hbd⟩ := c.ex
  obtain ⟨od, J⟩ := inst_of I2 hp
  cases rx
  refine bin_looks I2.kIn J B (lk_of I2 ry ht) hfi hf ?_
  refine wpAny_mono (call_at (sub_self hr) ok hbd I2 (vs := [.ref p, y]) (.cons rfl (.cons ry .nil)) hsp (fun e s' z => hx σ pins H2 s2 e s' I2 z)) (fun u s' z => back_ep z) fun _ _ z => z
end
/-! ### iter(t), t a tuple -/
def TiO (t it : Addr) : HO := .ext fun h => h.IsTupleIter it t 0
theorem tiO_ok {P : Program} {w : World} {H : Hp} {h : Heap} {t it : Addr} (e : h.IsTupleIter it t 0) : ObjOk P w H h it (TiO t it) := by
  obtain ⟨o, ho, hc, hd⟩ := id e
  exact ⟨e, ⟨o, ho⟩, fun h1 h2 z k => z.at fun o e => k _ e⟩
def rIterT (K : PySem.W.Frag) (n : Nat) : List V → Hp → VK → Prop := fun xs H Q => ∃ (t : Addr) (zs : List V), xs = [.ref t] ∧ SqT K H t zs ∧ ∀ it, H it = none → n ≤ it → Q (.ref it) (upd H it (TiO t it))
theorem call_iterT {X : Cx} : CallR X (.builtin "iter") (rIterT X.K X.s_0.heap.objs.size) := by
  intro pins s σ H xs us Q I r h
  obtain ⟨t, zs, rfl, hq, q⟩ := h
  cases r with
  | cons r1 r2 =>
    cases r2
    cases r1
    obtain ⟨its, rv, pl, hz⟩ := I.tuple hq
    refine Calls.call_function_entry (by decide +kernel) (by decide +kernel) PySem.W.kdk_entry_iter (PySem.W.kdk_args_iter _) ?_
    unfold Builtin.«iter»
    refine wpAny_bind (m := someArgs "iter" 1 2 _) (wpAny_of_eq (a := [Value.ref t]) (by first | rfl | kernel_rfl!) ?_)
    show wpAny _ _ (pyIter (.ref t) >>= _) _ _ _
    refine wpAny_bind (wpAny_pyIter_tuple pl ?_)
    refine wpAny_pure ⟨_, rfl, .ref s.heap.objs.size, _, I.laid (t' := s.toks) (fun b u e => Heap.get?_push_of_some _ e) (Nat.le_refl _) (tiO_ok ⟨_, Heap.get?_push_size _ rfl, rfl, rfl⟩), rfl, q _ (I.hok.fresh (Nat.le_refl _)) I.sz⟩
end Ow
namespace Ow
open PySem PySem.Spec PyProof.Rows L2 Bx TL Dx Zx ItX
/-- a def of the text, called at a state that one knows -/
theorem run_here {CX : CXT} {P : Program} {w : World} {K : PySem.W.Frag} {mg : Str → Option Value} {base : Heap} {k : Nat} {f : Addr} {nm qn : Str} {params : Arguments} {body : List Stmt} {scope : Scope} {dV kV doc pm cdv ct oc : Value} {an od : Option Addr} {osl : Array (Option Value)} {N ps : List Str}
    {A : Around} {outer : List Env} {s : Shared} {H : Hp} {args : Args} {us : List Value} {vs : List V} {Q : VK} {E : XK} (lk : K.lookup f = some ⟨oc, od, .func (PySem.W.fnOf nm qn params body scope dV kV doc pm an cdv ct), osl⟩) (cd : PySem.W.codeIn K cdv qn = true) (S : FnScope N ps scope) (room : Room (k + 1) A)
    (e0 : Env0 P w K mg base A outer s H) (hb : BindsTo s (PySem.W.fnOf nm qn params body scope dV kV doc pm an cdv ct) args (ps.zip us)) (rel : Vals vs us) (len : vs.length = ps.length)
    (reads : Room k (A.deeper (envOfC qn scope s.heap.objs.size f cdv)) → ∃ t, PSs (cxOf CX P w K mg base N qn scope f cdv A outer s H E) body t ∧ t { nx := fun _ H' => Q .non H', rt := Q } (start N vs) H) :
    codeAny (model P w) A (.call (.ref f) args) (CR CX outer P w H s Q E) s := by
  have kx : K.In s.heap := e0.mod.kin.keeps (fun p q z => (e0.bs p q z).1)
  have open_ : s.heap.NoLimit := e0.mod.nolimit.keeps (fun p q z => (e0.bs p q z).1)
  have kinds : ∀ y ∈ ps.zip us, scope.names.lookup y.1 = some .local ∨ (scope.names.lookup y.1 = some .cell ∧ ((cellsFrom (s.heap.objs.size + 1) scope.names []).lookup y.1).isSome = true) := by
    rintro ⟨one, val⟩ hy
    exact (S.par one (List.of_mem_zip hy).1).imp id (fun q => ⟨q, PySem.W.cellsFrom_some _ _ _ (.inl q)⟩)
  refine codeAny_call_function room.depth (kx _ _ lk) rfl S.co S.gen rfl (PySem.W.codeRec_of kx cd) ?_
  refine hb _ _ _ _ ?_
  refine wpAny_newFunctionEnv_cells S.kind kinds (fun env he s1 x => ?_)
  cases he
  refine ⟨open_.keeps x.toInCall.keep, codeAny_func ?_⟩
  obtain ⟨t, pt, ht⟩ := reads (room.deeper _)
  have J0 := inv_start (CX := CX) (E := E) S room.hd e0 len rel x
  refine wpAny_mono (pt.run [] s1 (start N vs) H _ J0 ht) ?_ (fun e s' z => z)
  intro fl s' back
  match fl, back with
  | .ret u, ⟨v, σ', H', J, rv, q⟩ => exact ⟨v, H', J.os, J.bare, J.base, J.hok, rv, q⟩
  | .next, ⟨σ', H', J, q⟩ => exact ⟨V.non, H', J.os, J.bare, J.base, J.hok, rfl, q⟩
  | .brk, ⟨_, _, _, q⟩ => exact q.elim
  | .cont, ⟨_, _, _, q⟩ => exact q.elim
/-! ### for x in o, where def __iter__(self): return iter(self.f) -/
structure ItM (P : Program) (w : World) (K : PySem.W.Frag) (mg : Str → Option Value) (base : Heap) (C : Addr) (f : Str) (k : Nat) : Prop where
  ex : ∃ fi : Addr, PySem.W.findIn K (.ref C) "__iter__" = some (some (.ref fi)) ∧ PySem.W.isFn K (.ref fi) = true ∧
    ∀ (A : Around) (outer : List Env) (s : Shared) (H : Hp) (E : XK) (p dx t : Addr) (fs : List (Str × V)) (zs : List V), Room k A → Env0 P w K mg base A outer s H → H p = some (.ins C dx fs) → fs.lookup f = some (.ref t) → SqT K H t zs →
      codeAny (model P w) A (.call (.ref fi) ⟨[.ref p], []⟩) (CR CX0 outer P w H s (fun v H' => ∃ it, v = .ref it ∧ H it = none ∧ s.heap.objs.size ≤ it ∧ H' = upd H it (TiO t it)) E) s
section
variable {X : Cx} {C : Addr}
def tIterO (K : PySem.W.Frag) (C : Addr) (f : Str) (te : TE) : TI := fun σ H R => te σ H fun x H1 => ∃ p dx fs t zs, x = .ref p ∧ H1 p = some (.ins C dx fs) ∧ fs.lookup f = some (.ref t) ∧ SqT K H1 t zs ∧ R (Itt K t) H1
theorem pi_iterO {tg l : Expr} {te : TE} {k : Nat} {f : Str} (c : ItM X.prog X.w X.K X.mg X.base C f k) (hr : Room k X.A) (he : PE X l te) : PI X tg l (tIterO X.K C f te) := by
  refine ⟨fun pins s σ H R I h => ?_⟩
  refine thn (he.run pins s σ H _ I h) fun v s1 ⟨x, H1, I1, r1, q1⟩ => ?_
  obtain ⟨p, dx, fs, t, zs, rfl, hp, hl, hz, hR⟩ := q1
  obtain ⟨fi, hfi, hf, go⟩ := c.ex
  obtain ⟨od, J⟩ := inst_of I1 hp
  obtain ⟨m, hF⟩ := I1.fr
  cases r1
  refine PySem.W.owit_iter hF I1.ok.mod.kin J hfi hf ?_
  refine wpAny_call (codeAny_mono (go X.A X.stack s1 H1 E0 p dx t fs zs hr I1.env0 hp hl hz) fun res s' back => ?_)
  match res, back with
  | .error e, back => exact back.elim
  | .ok .next, back => exact back.elim
  | .ok .brk, back => exact back.elim
  | .ok .cont, back => exact back.elim
  | .ok (.ret u), back =>
    obtain ⟨v, H2, I2, rv, it, rfl, n1, hy, rfl⟩ := I1.after back
    cases rv
    have e2 : upd H1 it (TiO t it) it = some (TiO t it) := upd_same
    have hit : s'.heap.IsTupleIter it t 0 := by
      have : ObjOk X.prog X.w (upd H1 it (TiO t it)) s'.heap it (.ext fun h => h.IsTupleIter it t 0) := I2.hok it _ e2
      exact this.1
    show wpAny _ _ (specialOf (.ref it) "__next__") _ _ _
    refine wpAny_specialOf (name := Str.ofString "__next__") hit.typeIs PySem.F.slot_tuple_iterator_next.lookup ?_
    have hn : X.s_0.heap.objs.size ≤ it := Nat.le_trans I1.sz hy
    have I3 := inv_drop I2 e2
    have fp := inv_fp I2 e2 hn
    rw [dropH_upd n1] at I3 fp
    refine ⟨it, [it], _, _, H1, rfl, I3, turn_tuple t it, hit, fun b hb => ?_, hR⟩
    rw [List.mem_singleton.mp hb]
    exact fp
end
end Ow
/-! Own classes: o + p of one class, k * o, -o; dict(t) of a tuple of pairs. -/
namespace Ow
open PySem PySem.Spec PyProof.Rows L2 Bx TL Dx Zx ItX
theorem bin_same {prog : Program} {w : World} {A : Around} {E : Value → Shared → Prop} {s : Shared} {K : PySem.W.Frag} {x y C f : Addr} {ox oy : Obj} {od oe : Option Obj} {op : Operator} {Q : Value → Shared → Prop}
    (X : K.In s.heap) (I : PySem.W.InstAt s.heap x ox C od) (J : PySem.W.InstAt s.heap y oy C oe) (first : PySem.W.selfFirst K C = true) (hs : PySem.W.findIn K (.ref C) (PySem.dunder op.info.2) = some (some (.ref f))) (hf : PySem.W.isFn K (.ref f) = true)
    (h : wpAny (model prog w) A (call (.ref f) [.ref x, .ref y]) (PySem.W.CmpBack Q) E s) : wpAny (model prog w) A (binaryOp op (.ref x) (.ref y)) Q E s := by
  obtain ⟨cd, rest, hcd, hm⟩ := PySem.W.ksp_first first
  cases hi : op.info with
  | mk sym nm =>
    rw [hi] at hs
    dsimp only at hs
    have called := PySem.W.ksp_try X I hs hf h
    have d1 : PySem.W.Looks (model prog w) s.heap (typeOf (.ref x)) (.ref C) := I.type
    have d2 : PySem.W.Looks (model prog w) s.heap (typeOf (.ref y)) (.ref C) := J.type
    have d3 : PySem.W.Looks (model prog w) s.heap (fillsNumberSlot (.ref C) nm) true := PySem.W.fills_K X hcd hm hs
    clear X I J hs hf h
    obtain ⟨hp, g, dd, tt, os⟩ := s
    have same : (Value.ref C == Value.ref C) = true := beq_self_eq_true _
    simp only [binaryOp, hi]
    refine wpAny_holding (wpAny_bind ?_)
    unfold binaryOp1
    refine wpAny_bind (d1.at (wpAny_bind ?_))
    refine d2.at (wpAny_bind (d3.at ?_))
    simp only [same, if_true]
    ksp_lk
    refine wpAny_mono called (fun r s' z => ?_) fun _ _ e => e
    obtain ⟨v, rfl, z⟩ := z
    ksp_lk
    exact z
section
variable {X : Cx} {C : Addr} {k : Nat} {ps : List Str} {sp : Sp} {op : Operator}
def rBinSame (C : Addr) (sp : Sp) : V → V → Hp → VK → Prop := fun x y H Q => ∃ p q dx dy fs gs, x = .ref p ∧ y = .ref q ∧ H p = some (.ins C dx fs) ∧ H q = some (.ins C dy gs) ∧ sp [.ref p, .ref q] H Q E0
theorem op_same (c : OwM X.prog X.w X.K X.mg X.base CX0 C (PySem.dunder op.info.2) k ps sp) (first : PySem.W.selfFirst X.K C = true) (hr : Room k X.A) : OpR X (binaryOp op) (rBinSame C sp) := by
  intro pins s σ H x y u v Q I rx ry h
  obtain ⟨p, q, dx, dy, fs, gs, rfl, rfl, hp, hq, hsp⟩ := h
  obtain ⟨f, fd, ok, hs, hf, _, hb⟩ := c.ex
  obtain ⟨od, J⟩ := inst_of I hp
  obtain ⟨oe, J2⟩ := inst_of I hq
  cases rx
  cases ry
  refine bin_same I.kIn J J2 first hs hf ?_
  refine wpAny_mono (call_at (sub_self hr) ok hb I (vs := [.ref p, .ref q]) (.cons rfl (.cons rfl .nil)) hsp (fun e s' z => z.elim)) (fun u s' z => back_ep z) fun _ _ z => z
/-- o op x -/
def rBinT (K : PySem.W.Frag) (C : Addr) (T : String) (sp : Sp) : V → V → Hp → VK → Prop := fun x y H Q => ∃ p dx fs, x = .ref p ∧ H p = some (.ins C dx fs) ∧ TyO K H y T ∧ sp [.ref p, y] H Q E0
theorem op_ownT {T : String} (c : OwM X.prog X.w X.K X.mg X.base CX0 C (PySem.dunder op.info.2) k ps sp) (B : BinF X.K C op T) (hr : Room k X.A) : OpR X (binaryOp op) (rBinT X.K C T sp) := by
  intro pins s σ H x y u v Q I rx ry h
  obtain ⟨p, dx, fs, rfl, hp, ht, hsp⟩ := h
  obtain ⟨f, fd, ok, hs, hf, _, hb⟩ := c.ex
  obtain ⟨od, J⟩ := inst_of I hp
  cases rx
  refine bin_looks I.kIn J B (lk_of I ry ht) hs hf ?_
  refine wpAny_mono (call_at (sub_self hr) ok hb I (vs := [.ref p, y]) (.cons rfl (.cons ry .nil)) hsp (fun e s' z => z.elim)) (fun u s' z => back_ep z) fun _ _ z => z
/-- -o -/
theorem un_negO (c : OwM X.prog X.w X.K X.mg X.base CX0 C "__neg__" k ps sp) (hr : Room k X.A) : UnR X (unaryOp .USub) (fun x H Q => ∃ p dx fs, x = .ref p ∧ H p = some (.ins C dx fs) ∧ sp [.ref p] H Q E0) := by
  intro pins s σ H x u Q I rx h
  obtain ⟨p, dx, fs, rfl, hp, hsp⟩ := h
  obtain ⟨f, fd, ok, hs, hf, _, hb⟩ := c.ex
  obtain ⟨od, J⟩ := inst_of I hp
  obtain ⟨m, hF⟩ := I.fr
  cases rx
  refine PySem.W.ksp_neg hF I.ok.mod.kin J hs hf ?_
  exact call_at (sub_self hr) ok hb I (vs := [.ref p]) (.cons rfl .nil) hsp (fun e s' z => z.elim)
/-- o[i] -/
theorem pe_subO0 {a b : Expr} {ta tb : TE} {pos : Pos} (c : OwM X.prog X.w X.K X.mg X.base CX0 C "__getitem__" k ps sp) (fi : ∀ f, PySem.W.findIn X.K (.ref C) "__getitem__" = some (some (.ref f)) → PySem.W.fnIn X.K f = true) (hr : Room (k + 1) X.A) (ha : PE X a ta) (hb : PE X b tb)
    (hs : ∀ v u, subscripted b true v u = runValue (.builtin "lifetime.subscript" ⟨[v, u], []⟩) := by intro _ _; rfl) : PE X (.Subscript a b pos) (tSubO C sp (fun _ _ _ _ => False) ta tb) :=
  pe_subO c fi hr (fun _ _ _ _ _ _ _ h => h.elim) ha hb hs
end
end Ow
/-! tuple(xs) without a dict of its own; dict(t) of such a tuple of pairs; k * o. -/
namespace Ow
open PySem PySem.Spec PyProof.Rows L2 Bx TL Dx Zx ItX
/-- a tuple without a dict of its own -/
def PlT (H : Hp) (a : Addr) (xs : List V) : Prop := ∃ o, H a = some (.frz o (.tup xs)) ∧ o.dict = none
theorem PlT.sq {K : PySem.W.Frag} {H : Hp} {a : Addr} {xs : List V} (h : PlT H a xs) : SqT K H a xs := .inl (.inr ⟨_, h.choose_spec.1⟩)
theorem PlT.same {H H' : Hp} {a : Addr} {xs : List V} (s : Same H H') (h : PlT H a xs) : PlT H' a xs := ⟨_, s _ _ h.choose_spec.1, h.choose_spec.2⟩
section
variable {X : Cx}
def rTupF (K : PySem.W.Frag) : List V → Hp → VK → Prop := fun xs H Q => ∃ p ys, xs = [.ref p] ∧ SqL K H p ys ∧ ∀ l o, H l = none → o.dict = none → Q (.ref l) (upd H l (.frz o (.tup ys)))
theorem call_tupleF : CallR X (.type "tuple") (rTupF X.K) := by
  intro pins s σ H xs us Q I r h
  obtain ⟨p, ys, rfl, hq, q⟩ := h
  obtain ⟨u, rfl, rx⟩ := vals1 r
  cases rx
  obtain ⟨its, r', pl, hz⟩ := I.list hq
  have hlen := r'.length
  refine call_tuple_list pl.isList (fun h' kp => ?_) (by simp only [List.size_toArray] <;> omega)
  have I1 : Inv X pins σ H { s with heap := h' } := I.kept (t' := s.toks) kp
  let o : Obj := { cls := .type "tuple", data := .seq its.toArray }
  have I2 : Inv X pins σ (upd H h'.objs.size (.frz o (.tup ys))) { s with heap := h'.push o } :=
    I1.laid (t' := s.toks) (fun b o e => Heap.get?_push_of_some _ e) (Nat.le_refl _) (show ObjOk X.prog X.w _ _ _ (.frz o (.tup ys)) from ⟨Heap.get?_push_size _ rfl, hz, its, r', IsTup.new _ _⟩)
  exact ⟨.ref h'.objs.size, _, I2, rfl, q _ o (I1.hok.fresh (Nat.le_refl _)) rfl⟩
def rDictT (K : PySem.W.Frag) : List V → Hp → VK → Prop := fun xs H Q => ∃ (a : Addr) (ps : List Addr) (kvs : List (Key × V)), xs = [.ref a] ∧ PlT H a (ps.map V.ref) ∧ Paired (fun p kv => SqT K H p [kV kv.1, kv.2]) ps kvs ∧
    ∀ p, H p = none → Q (.ref p) (upd H p (.dK (mergeK [] kvs)))
theorem call_dictT (hcalm : X.calm = true) : CallR X (.type "dict") (rDictT X.K) := by
  intro pins s σ H xs us Q I r q
  obtain ⟨a, ps, kvs, rfl, ⟨o, ha, hod⟩, hp, q⟩ := q
  obtain ⟨u, rfl, rx⟩ := vals1 r
  cases rx
  obtain ⟨hg, hz, its, rv, o2, ho2, hc, n, hdat⟩ : ObjOk X.prog X.w H s.heap a (.frz o (.tup (ps.map V.ref))) := I.hok a _ ha
  rw [hg] at ho2
  obtain rfl := Option.some.inj ho2
  have ei := refs_at rv
  subst ei
  obtain ⟨prs, rel, hl, hpr⟩ := pairs_of I hp
  rw [List.length_map] at hz
  have at_ : ∀ (j : Nat) (q : Key × Value), prs[j]? = some q → ∃ u : Value, IsTup s.heap (ps.getD j 0) #[u, q.2] ∧ ps[j]? = some (ps.getD j 0) ∧ keyIs q.1 u = true := fun j q e => by
    obtain ⟨b, u, e1, e2, e3⟩ := hpr j q e
    have e4 : ps.getD j 0 = b := by rw [List.getD_eq_getElem?_getD, e1]; rfl
    rw [e4]
    exact ⟨u, e2, e1, e3⟩
  classical
  let key : Nat → Value := fun j => match prs[j]? with
    | some q => (if h : ∃ u : Value, IsTup s.heap (ps.getD j 0) #[u, q.2] ∧ keyIs q.1 u = true then h.choose else .none)
    | none => .none
  have keyAt : ∀ (j : Nat) (q : Key × Value), prs[j]? = some q → IsTup s.heap (ps.getD j 0) #[key j, q.2] ∧ keyIs q.1 (key j) = true := fun j q e => by
    obtain ⟨u, h1, _, h3⟩ := at_ j q e
    have hh : ∃ u : Value, IsTup s.heap (ps.getD j 0) #[u, q.2] ∧ keyIs q.1 u = true := ⟨u, h1, h3⟩
    have ek : key j = hh.choose := by
      show (match prs[j]? with | some q => _ | none => _) = _
      rw [e]
      exact dif_pos hh
    rw [ek]
    exact hh.choose_spec
  let vps : List (Value × Value) := (List.range prs.length).map fun j => (key j, match prs[j]? with | some q => q.2 | none => .none)
  have vlen : vps.length = prs.length := by simp [vps]
  have vat : ∀ j k v, vps[j]? = some (k, v) → ∃ q : Key × Value, prs[j]? = some q ∧ k = key j ∧ v = q.2 := fun j k v e => by
    have hj : j < prs.length := by
      have := (List.getElem?_eq_some_iff.mp e).1
      omega
    have e1 : prs[j]? = some prs[j] := List.getElem?_eq_getElem hj
    refine ⟨prs[j], e1, ?_⟩
    have e2 : vps[j]? = some (key j, prs[j].2) := by
      simp only [vps, List.getElem?_map, List.getElem?_range hj, Option.map_some, e1]
    rw [e2] at e
    cases e
    exact ⟨rfl, rfl⟩
  have P := PySem.PairArg.tuple (prog := X.prog) (w := X.w) a (ps.map Value.ref).toArray (fun j => ps.getD j 0) vps
  refine PySem.call_dict_pairs (knd := mixKind X.prog X.w) (kvs := prs) P (I.ok.hd hcalm) ⟨⟨o, n, hg, hc, hod, hdat⟩, by rw [List.size_toArray, List.length_map, vlen, hl], fun j k v e => ?_⟩ ⟨vlen.symm, fun i k v e => ?_⟩ (by rw [vlen, hl]; exact hz) fun h' tk hd' kp => ?_
  · obtain ⟨q, e1, rfl, rfl⟩ := vat j k v e
    obtain ⟨u, _, e3, _⟩ := at_ j q e1
    refine ⟨?_, .inl (keyAt j q e1).1⟩
    rw [List.getElem?_toArray, List.getElem?_map, e3]
    rfl
  · obtain ⟨q, e1, rfl, rfl⟩ := vat i k v e
    exact ⟨q.1, e1, (keyAt i q e1).2⟩
  · have hm : (s.heap.objs.size == sysModules) = false := beq_eq_false_iff_ne.mpr (Nat.ne_of_gt I.big)
    have hlen : (mergeK [] kvs).length ≤ sizeLine := by
      refine Nat.le_trans (length_mergeK kvs []) ?_
      rw [List.length_nil, Nat.zero_add, rel.length, hl]
      exact hz
    exact ⟨.ref s.heap.objs.size, upd H s.heap.objs.size (.dK (mergeK [] kvs)), I.laid (t' := tk) (fun b o e => kp b o (fun h => nomatch h) e) (Nat.le_refl _) (show ObjOk X.prog X.w _ _ _ (.dK (mergeK [] kvs)) from ⟨hlen, hm, merged [] prs, KV.merge rel .nil, hd'⟩), rfl, q _ (I.hok.fresh (Nat.le_refl _))⟩
end
/-! ### k * o -/
theorem int_mul_ins (a : Int) (t : Tok) (l C dx : Addr) :
    Meets (Builtin.«int.__mul__» ⟨[.int a t, .ref l], []⟩) (fun _ R s => s.heap.get? l = some (PySem.W.instObj C dx) ∧ R (.ok (.ret Value.notImplemented)) s) :=
  .of_wp fun prog w A R s h => by obtain ⟨hp, g, d, tk, os⟩ := s; obtain ⟨hl, h⟩ := h; wp_walk; exact ⟨_, rfl, h⟩
theorem int_declines {prog : Program} {w : World} {A : Around} {E : Value → Shared → Prop} {s : Shared} {k : Int} {t : Tok} {x C dx : Addr} {Q : Value → Shared → Prop} (hg : s.heap.get? x = some (PySem.W.instObj C dx)) (q : Q .notImplemented s) :
    wpAny (model prog w) A (call (.builtin "int.__mul__") [.int k t, .ref x]) Q E s :=
  call_meets F.slot_int_mul (typeIs_int s k t) F.entry_int_mul (F.args_int_mul_2 _ _) (int_mul_ins k t x C dx) ⟨hg, q⟩
theorem try_declines {prog : Program} {w : World} {A : Around} {E : Value → Shared → Prop} {s : Shared} {k : Int} {t : Tok} {x C dx : Addr} {Q : Option Value → Shared → Prop} (hg : s.heap.get? x = some (PySem.W.instObj C dx)) (q : Q none s) :
    wpAny (model prog w) A (tryMethod (.int k t) (dunder "mul") (.ref x)) Q E s := by
  refine wpAny_tryMethod_declines (T := "int") (name := dunder "mul") (id := "int.__mul__") ?_ ?_ ?_
  · exact typeIs_int s k t
  · exact F.slot_int_mul
  exact int_declines hg ⟨rfl, q⟩
theorem bin_right {prog : Program} {w : World} {A : Around} {E : Value → Shared → Prop} {s : Shared} {K : PySem.W.Frag} {x C f dx : Addr} {od : Option Obj} {k : Int} {t : Tok} {Q : Value → Shared → Prop}
    (X : K.In s.heap) (I : PySem.W.InstAt s.heap x (PySem.W.instObj C dx) C od) (first : PySem.W.selfFirst K C = true) (hl : PySem.W.findIn K (.ref C) "__mul__" = some (some (.ref f))) (hs : ∃ g : Addr, PySem.W.findIn K (.ref C) "__rmul__" = some (some (.ref g)) ∧ PySem.W.isFn K (.ref g) = true ∧
      wpAny (model prog w) A (call (.ref g) [.ref x, .int k t]) (PySem.W.CmpBack Q) E s)
    (hsub : PySem.W.subIn K (.ref C) (.type "int") = some false) : wpAny (model prog w) A (binaryOp .Mult (.int k t) (.ref x)) Q E s := by
  obtain ⟨g, hr, hf, h⟩ := hs
  obtain ⟨cd, rest, hcd, hm⟩ := PySem.W.ksp_first first
  have hg : s.heap.get? x = some (PySem.W.instObj C dx) := by
    exact I.at_
  have called := PySem.W.ksp_try X I hr hf h
  have d1 : PySem.W.Looks (model prog w) s.heap (typeOf (.ref x)) (.ref C) := I.type
  have d3 : PySem.W.Looks (model prog w) s.heap (fillsNumberSlot (.ref C) "mul") true := PySem.W.fills_K X hcd hm hl
  have d5 : PySem.W.Looks (model prog w) s.heap (isSubtype (.ref C) (.type "int")) false := PySem.W.looks_subIn X hsub
  clear X I hl hr hf h
  simp only [binaryOp]
  refine wpAny_holding (wpAny_bind ?_)
  show wpAny _ _ (binaryOp1 "mul" _ _) _ _ _
  simp only [binaryOp1]
  refine wpAny_bind (wpAny_typeOf (typeIs_int s k t) (wpAny_bind (d1.at (wpAny_bind (wpAny_of_eq F.fills_int_mul ?_)))))
  have hne : (Value.type "int" == Value.ref C) = false := Bool.eq_false_iff.mpr fun q => by cases beq_iff_eq.mp q
  simp only [hne, Bool.false_eq_true, if_false]
  refine wpAny_bind (d3.at ?_)
  simp only [Bool.and_self, if_true]
  refine wpAny_bind (d5.at ?_)
  have hpy : numberSlotInPython (.type "int") "mul" = pure false := rfl
  simp only [Bool.false_eq_true, if_false, pure_bind, Bool.not_false, Bool.and_self, if_true, hpy]
  refine wpAny_bind (try_declines hg ?_)
  refine wpAny_bind (wpAny_mono called (fun r s' z => ?_) fun _ _ e => e)
  obtain ⟨v, rfl, z⟩ := z
  exact wpAny_bind (wpAny_rule (wpAny_pure (wpAny_pure z)))
section
variable {X : Cx} {C : Addr} {k : Nat} {ps : List Str} {sp : Sp}
/-- k * o -/
def rMulR (C : Addr) (sp : Sp) : V → V → Hp → VK → Prop := fun x y H Q => ∃ p dx fs n, x = .int n ∧ y = .ref p ∧ H p = some (.ins C dx fs) ∧ sp [.ref p, .int n] H Q E0
theorem op_mulR (c : OwM X.prog X.w X.K X.mg X.base CX0 C "__rmul__" k ps sp) (first : PySem.W.selfFirst X.K C = true) (hl : ∃ f : Addr, PySem.W.findIn X.K (.ref C) "__mul__" = some (some (.ref f))) (hsub : PySem.W.subIn X.K (.ref C) (.type "int") = some false) (hr : Room k X.A) : OpR X (binaryOp .Mult) (rMulR C sp) := by
  intro pins s σ H x y u v Q I rx ry h
  obtain ⟨p, dx, fs, n, rfl, rfl, hp, hsp⟩ := h
  obtain ⟨f, fd, ok, hs, hf, _, hb⟩ := c.ex
  obtain ⟨fl, hfl⟩ := hl
  obtain ⟨od, J⟩ := inst_of I hp
  obtain ⟨t, rfl⟩ := id rx
  cases ry
  refine bin_right I.kIn J first hfl ⟨f, hs, hf, ?_⟩ hsub
  refine wpAny_mono (call_at (sub_self hr) ok hb I (vs := [.ref p, .int n]) (.cons rfl (.cons rx .nil)) hsp (fun e s' z => z.elim)) (fun u s' z => back_ep z) fun _ _ z => z
end
end Ow
namespace Ow
open PySem PySem.Spec PyProof.Rows L2 Bx TL Dx Zx ItX
/-! ### calls with defaults, new instances, methods, by their promises -/
structure CalD (P : Program) (w : World) (K : PySem.W.Frag) (mg : Str → Option Value) (base : Heap) (x : Str) (k : Nat) (ps : List Str) (sp : Sp) (dvs : List V) : Prop where
  ex : ∃ (f : Addr) (fd : FuncData) (ds : List Value), FnOk P w K mg base CX0 k f fd ps sp ∧ mg x = some (.ref f) ∧ PySem.W.keepIn K (.ref f) = true ∧ Binds K fd ps ds ∧ Vals dvs ds
structure MakC (P : Program) (w : World) (K : PySem.W.Frag) (mg : Str → Option Value) (base : Heap) (x : Str) (C : Addr) (k : Nat) (ps : List Str) (sp : Sp) (dvs : List V) : Prop where
  ex : ∃ (f : Addr) (fd : FuncData) (ds : List Value), Mk K C f ∧ FnOk P w K mg base CX0 k f fd ps sp ∧ mg x = some (.ref C) ∧ Binds K fd ps ds ∧ Vals dvs ds
structure MthC (P : Program) (w : World) (K : PySem.W.Frag) (mg : Str → Option Value) (base : Heap) (C : Addr) (m : Str) (k : Nat) (ps : List Str) (sp : Sp) : Prop where
  ex : ∃ (f : Addr) (fd : FuncData), Cls K C ∧ Meth K C m f ∧ FnOk P w K mg base CX0 k f fd ps sp ∧ Binds K fd ps []
section
variable {X : Cx} {x : Str} {k : Nat} {ps : List Str} {sp : Sp} {e : Expr} {es : List Expr} {t : TA} {p pos : Pos} {dvs : List V} {C : Addr}
theorem pe_calD (c : CalD X.prog X.w X.K X.mg X.base x k ps sp dvs) (hr : Room k X.A) (ha : PA X (e :: es) t) (hg : Gl X x := by rfl) (hdb : (x == ("__debug__" : Str)) = false := by decide)
    (he : starEach (e :: es) X.env = (false, eval e X.env) :: starEach es X.env := by rfl) (hpl : (backTo pos (starEach es X.env)).any (·.1) = false := by rfl) : PE X (.Call (.Name x p) (e :: es) [] pos) (tCall sp dvs E0 t) := by
  obtain ⟨f, fd, ds, ok, g, kp, b, r⟩ := c.ex
  exact pe_call (E := E0) ok hr hg g kp b r pass0 ha hdb he hpl (p := p)
theorem pe_mak (c : MakC X.prog X.w X.K X.mg X.base x C k ps sp []) (hr : Room (k + 1) X.A) (ha : PA X (e :: es) t) (hg : Gl X x := by rfl) (hdb : (x == ("__debug__" : Str)) = false := by decide)
    (he : starEach (e :: es) X.env = (false, eval e X.env) :: starEach es X.env := by rfl) (hpl : (backTo pos (starEach es X.env)).any (·.1) = false := by rfl) : PE X (.Call (.Name x p) (e :: es) [] pos) (tMake C sp [] E0 t) := by
  obtain ⟨f, fd, ds, M, ok, g, b, r⟩ := c.ex
  exact pe_make (E := E0) M ok hr hg g b r pass0 ha hdb he hpl (p := p)
theorem pe_mak0 (c : MakC X.prog X.w X.K X.mg X.base x C k ps sp dvs) (hr : Room (k + 1) X.A) (hg : Gl X x := by rfl) (hdb : (x == ("__debug__" : Str)) = false := by decide) : PE X (.Call (.Name x p) [] [] pos) (tMake C sp dvs E0 tNil) := by
  obtain ⟨f, fd, ds, M, ok, g, b, r⟩ := c.ex
  exact pe_make0 (E := E0) M ok hr hg g b r pass0 hdb (p := p)
theorem pe_mth {m : Str} {o : Expr} {to : TE} {apos : Pos} {pl : Sem Bool} (c : MthC X.prog X.w X.K X.mg X.base C m k ps sp) (hr : Room k X.A) (ho : PE X o to) (ha : PA X (e :: es) t)
    (hst : starEach (e :: es) X.env = (false, eval e X.env) :: starEach es X.env := by rfl) (hpl : (backTo pos (starEach es X.env)).any (·.1) = false := by rfl)
    (ht : eval (.Call (.Attribute o m apos) (e :: es) [] pos) X.env = (do
      let ov ← eval o X.env
      standAt apos.atName
      let (f, first) ← holding [ov] (getMethod ov m pl)
      callWith pos f first (backTo pos (starEach (e :: es) X.env)) (backToKw pos (keywordEach [] X.env))) := by rfl) : PE X (.Call (.Attribute o m apos) (e :: es) [] pos) (tMeth C m sp [] E0 to t) := by
  obtain ⟨f, fd, cl, mt, ok, b⟩ := c.ex
  exact pe_meth (E := E0) ho cl mt ok hr b .nil pass0 ha hst hpl ht
end
/-! ### // by any divisor -/
def CDivZ (_ j : Int) : Prop := j ≠ 0 ∧ j.natAbs.log2 < 9000
theorem op_fdivZ {X : Cx} : OpR X (binaryOp .FloorDiv) (rI CDivZ fun i j => .int (i.fdiv j)) := opI fun i j _ _ _ _ _ hc q => floordiv_int hc.1 q (.inl (PyProof.noPylong_of_log2 hc.2))
theorem wide_divZ {i j : Int} {b : Nat} (h : j ≠ 0) (hb : j.natAbs < 2 ^ b) (h0 : 0 < b) (h9 : b ≤ 9000) : CDivZ i j := ⟨h, Nat.lt_of_lt_of_le (PySem.Flt.log2_lt_of h0 hb) h9⟩
end Ow
/-! Calls that may raise, with a wish that knows the slots: C(..), o.m(..), f(..); C held by a local; list.count of texts. -/
namespace Px
open PySem PySem.Spec PyProof.Rows L2 Bx TL Dx Zx Ow
theorem passN {X : Cx} : Passes (L2.CX X.prog X.w) X E0 := fun _ _ _ _ _ _ _ ⟨_, _, _, _, _, _, _, _, _, _, _, _, z⟩ => z.elim
/-- `C(..)`, whose `__init__` may raise -/
structure MakX (P : Program) (w : World) (K : PySem.W.Frag) (mg : Str → Option Value) (base : Heap) (x : Str) (C : Addr) (k : Nat) (ps : List Str) (sp : Sp) : Prop where
  ex : ∃ (f : Addr) (fd : FuncData), Mk K C f ∧ FnOk P w K mg base (L2.CX P w) k f fd ps sp ∧ mg x = some (.ref C) ∧ Binds K fd ps []
structure MthX (P : Program) (w : World) (K : PySem.W.Frag) (mg : Str → Option Value) (base : Heap) (C : Addr) (m : Str) (k : Nat) (ps : List Str) (sp : Sp) : Prop where
  ex : ∃ (f : Addr) (fd : FuncData), Cls K C ∧ Meth K C m f ∧ FnOk P w K mg base (L2.CX P w) k f fd ps sp ∧ Binds K fd ps []
structure CalE (P : Program) (w : World) (K : PySem.W.Frag) (mg : Str → Option Value) (base : Heap) (x : Str) (k : Nat) (ps : List Str) (sp : Sp) : Prop where
  ex : ∃ (f : Addr) (fd : FuncData), FnOk P w K mg base (L2.CX P w) k f fd ps sp ∧ mg x = some (.ref f) ∧ PySem.W.keepIn K (.ref f) = true ∧ Binds K fd ps []
section
variable {X : Cx} {x : Str} {k : Nat} {ps : List Str} {sp : Sp} {e : Expr} {es : List Expr} {t : TA} {p pos : Pos} {C : Addr} {W : WX}
theorem run_makS {pins : List (Addr × Obj)} {σ : L2.St} {H : Hp} {s : Shared} {Q : VK} {E : XK} {us : List Value} {vs : List V} {f : Addr} {fd : FuncData} (M : Mk X.K C f) (F : FnOk X.prog X.w X.K X.mg X.base (L2.CX X.prog X.w) k f fd ps sp) (hr : Room (k + 1) X.A) (b : Binds X.K fd ps [])
    (hx : PassesAt (L2.CX X.prog X.w) X σ E) (I : Inv X pins σ H s) (rv : Vals vs us) (h : ∀ y dy, H y = none → H dy = none → dy ≠ y → sp (.ref y :: vs) (upd (upd H dy (.own y)) y (.ins C dy [])) (fun v G => v = .non ∧ Q (.ref y) G) E) :
    wpAny (model X.prog X.w) X.A (call (.ref C) us) (EP X pins σ Q) X.xe s := by
  have n1 := I.hok.fresh (Nat.le_refl s.heap.objs.size)
  have n2 := I.hok.fresh (Nat.le_succ s.heap.objs.size)
  have g := h _ _ n2 n1 (Nat.ne_of_lt (Nat.lt_succ_self s.heap.objs.size))
  have J := Inv.made (C := C) I
  have rs : Vals (V.ref (s.heap.objs.size + 1) :: vs) (Value.ref (s.heap.objs.size + 1) :: us) := .cons rfl rv
  have ln : (Value.ref (s.heap.objs.size + 1) :: us).length = ps.length := rs.length.symm.trans (F.len _ _ _ _ g)
  have bd := b _ (Value.ref (s.heap.objs.size + 1) :: us) J.kIn (by rw [List.append_nil]; exact ln)
  rw [List.append_nil] at bd
  refine wpAny_call (make_map (f := f) I.kIn M.makes M.init (beq_iff_eq.mp M.fn) (codeAny_mono (F.run _ X.stack _ _ _ _ _ _ E (hr.make C us []) (J.env0.make C us []) bd rs g) fun res s' back => ?_))
  match res, back with
  | .error er, back => exact hx pins _ _ er s' J back
  | .ok (.ret u), back =>
    obtain ⟨v, G, J2, r2, e2, q⟩ := J.after back
    subst e2
    exact ⟨r2, .ref (s.heap.objs.size + 1), G, J2, rfl, q⟩
  | .ok .next, back => exact back.elim
  | .ok .brk, back => exact back.elim
  | .ok .cont, back => exact back.elim
def tMakX (C : Addr) (sp : Sp) (W : WX) (t : TA) : TE := fun σ H Q => t σ H fun vs H1 => ∀ y dy, H1 y = none → H1 dy = none → dy ≠ y → sp (.ref y :: vs) (upd (upd H1 dy (.own y)) y (.ins C dy [])) (fun v G => v = .non ∧ Q (.ref y) G) (WE W σ)
theorem pe_makX (c : MakX X.prog X.w X.K X.mg X.base x C k ps sp) (tk : Takes X W) (hr : Room (k + 1) X.A) (ha : PA X (e :: es) t) (hg : Gl X x := by rfl) (hdb : (x == ("__debug__" : Str)) = false := by decide)
    (he : starEach (e :: es) X.env = (false, eval e X.env) :: starEach es X.env := by rfl) (hpl : (backTo pos (starEach es X.env)).any (·.1) = false := by rfl) : PE X (.Call (.Name x p) (e :: es) [] pos) (tMakX C sp W t) := by
  obtain ⟨f, fd, M, ok, g, b⟩ := c.ex
  refine ⟨fun pins s σ H Q I h => wpAny_Call_Name_kw (ld_glob I hg g ?_ hdb)⟩
  exact PySem.W.callWith_K (h₀ := X.base) I.ok.mod.kin M.kp (thn (ha.run pos pins s σ H _ I h) fun us s1 ⟨vs, H1, I1, rv, q⟩ => ⟨I1.kIn, run_makS M ok hr b (passAt tk σ) I1 rv q⟩) he hpl
theorem pe_makN (c : MakX X.prog X.w X.K X.mg X.base x C k ps sp) (hr : Room (k + 1) X.A) (ha : PA X (e :: es) t) (hg : Gl X x := by rfl) (hdb : (x == ("__debug__" : Str)) = false := by decide)
    (he : starEach (e :: es) X.env = (false, eval e X.env) :: starEach es X.env := by rfl) (hpl : (backTo pos (starEach es X.env)).any (·.1) = false := by rfl) : PE X (.Call (.Name x p) (e :: es) [] pos) (tMake C sp [] E0 t) := by
  obtain ⟨f, fd, M, ok, g, b⟩ := c.ex
  exact pe_make (E := E0) M ok hr hg g b .nil passN ha hdb he hpl (p := p)
/-- the class in a slot: `cls(..)` -/
def tMakL (i : Nat) (C : Addr) (sp : Sp) (t : TA) : TE := fun σ H Q => σ[i]? = some (some (.ref C)) ∧ tMake C sp [] E0 t σ H Q
theorem pe_makL {i : Nat} {y : Str} (c : MakX X.prog X.w X.K X.mg X.base x C k ps sp) (hr : Room (k + 1) X.A) (hN : X.N[i]? = some y) (hv : Vis X.env.scope y) (ha : PA X (e :: es) t) (hdb : (y == ("__debug__" : Str)) = false := by decide) (hcd : (y == ("__classdict__" : Str)) = false := by decide)
    (he : starEach (e :: es) X.env = (false, eval e X.env) :: starEach es X.env := by rfl) (hpl : (backTo pos (starEach es X.env)).any (·.1) = false := by rfl) : PE X (.Call (.Name y p) (e :: es) [] pos) (tMakL i C sp t) := by
  obtain ⟨f, fd, M, ok, g, b⟩ := c.ex
  refine ⟨fun pins s σ H Q I h => ?_⟩
  obtain ⟨h1, h2⟩ := h
  refine wpAny_Call_Name_kw (thn ((pe_var (pos := p) hN hv hdb hcd).run pins s σ H (fun v G => v = .ref C ∧ G = H) I ⟨.ref C, h1, rfl, rfl⟩) fun u s1 ⟨v, G, I1, r1, q1⟩ => ?_)
  obtain ⟨rfl, rfl⟩ := q1
  cases r1
  exact PySem.W.callWith_K (h₀ := X.base) I.ok.mod.kin M.kp (thn (ha.run pos pins s1 σ _ _ I1 h2) fun us s2 ⟨vs, H2, I2, rv, q⟩ => ⟨I2.kIn, run_make M ok hr b .nil passN I2 rv q⟩) he hpl
def tMthX (C : Addr) (m : Str) (sp : Sp) (W : WX) (ta : TE) (t : TA) : TE := fun σ H Q => ta σ H fun v H1 => ∃ a dx fs, v = .ref a ∧ H1 a = some (.ins C dx fs) ∧ fs.lookup m = none ∧ t σ H1 fun vs H2 => sp (v :: vs) H2 Q (WE W σ)
theorem pe_mthX {m : Str} {o : Expr} {to : TE} {apos : Pos} {pl : Sem Bool} (c : MthX X.prog X.w X.K X.mg X.base C m k ps sp) (tk : Takes X W) (hr : Room k X.A) (ho : PE X o to) (ha : PA X (e :: es) t)
    (hst : starEach (e :: es) X.env = (false, eval e X.env) :: starEach es X.env := by rfl) (hpl : (backTo pos (starEach es X.env)).any (·.1) = false := by rfl)
    (ht : eval (.Call (.Attribute o m apos) (e :: es) [] pos) X.env = (do
      let ov ← eval o X.env
      standAt apos.atName
      let (f, first) ← holding [ov] (getMethod ov m pl)
      callWith pos f first (backTo pos (starEach (e :: es) X.env)) (backToKw pos (keywordEach [] X.env))) := by rfl) : PE X (.Call (.Attribute o m apos) (e :: es) [] pos) (tMthX C m sp W to t) := by
  obtain ⟨f, fd, cl, mt, ok, b⟩ := c.ex
  refine ⟨fun pins s σ H Q I h => PySem.W.methodCall_KW (pl := pl) (thn (ho.run pins s σ H _ I h) fun u s1 ⟨v, H1, I1, rx, a, dx, fs, ev, ea, l, q⟩ => ?_) ht⟩
  subst ev
  cases rx
  refine getmeth_ok I1 ea cl mt l (PySem.W.callWith_K (first := [.ref a]) (h₀ := X.base) I.ok.mod.kin mt.kp (thn (ha.run pos pins s1 σ H1 _ I1 q) fun us s2 ⟨vs, H2, I2, rv, q2⟩ => ⟨I2.kIn, ?_⟩) hst hpl)
  exact run_fnS (E := fun σ => WE W σ) (us := .ref a :: us) (vs := .ref a :: vs) ok hr b (passAt tk σ) I2 (.cons rfl rv) q2
theorem pe_calE (c : CalE X.prog X.w X.K X.mg X.base x k ps sp) (tk : Takes X W) (hr : Room k X.A) (ha : PA X (e :: es) t) (hg : Gl X x := by rfl) (hdb : (x == ("__debug__" : Str)) = false := by decide)
    (he : starEach (e :: es) X.env = (false, eval e X.env) :: starEach es X.env := by rfl) (hpl : (backTo pos (starEach es X.env)).any (·.1) = false := by rfl) : PE X (.Call (.Name x p) (e :: es) [] pos) (tCallS sp (fun σ => WE W σ) t) := by
  obtain ⟨f, fd, ok, g, kp, b⟩ := c.ex
  exact pe_callS ok hr hg g kp b (fun σ => passAt tk σ) ha hdb he hpl (p := p)
end
/-! ### xs.count(x) of texts -/
section
variable {X : Cx}
def rCntS (K : PySem.W.Frag) : V → List V → Hp → VK → Prop := fun x xs H Q => ∃ (p : Addr) (ns : List Str) (z : Str), x = .ref p ∧ xs = [.str z] ∧ SqL K H p (ns.map V.str) ∧ Q (.int (ns.count z : Nat)) H
theorem plain_strs : ∀ ns : List Str, PyData.plainAll (ns.map PyData.str) = true
  | [] => rfl
  | n :: ns => by
    show (PyData.plain (PyData.str n) && PyData.plainAll (ns.map PyData.str)) = true
    rw [plain_strs ns]
    rfl
theorem depth_strs : ∀ ns : List Str, PyData.depthAll (ns.map PyData.str) ≤ 1
  | [] => Nat.zero_le 1
  | n :: ns => by
    show max (PyData.depth (PyData.str n)) (PyData.depthAll (ns.map PyData.str)) ≤ 1
    exact Nat.max_le.mpr ⟨by show 0 ≤ 1; omega, depth_strs ns⟩
theorem cnt_strs (z : Str) : ∀ ns : List Str, (ns.map PyData.str).countP (fun y => PyData.eqv y (.str z)) = ns.count z
  | [] => rfl
  | n :: ns => by
    rw [List.map_cons, List.countP_cons, List.count_cons, cnt_strs z ns]
    rfl
theorem mt_lcountS (hu : X.A.units + 65 < cLine) : MtR X "list.count" (rCntS X.K) := by
  intro pins s σ H x xs v us Q I rx rxs h
  obtain ⟨p, ns, z, rfl, rfl, hs, q⟩ := h
  cases rx
  obtain ⟨u, rfl, ru⟩ := rxs.one
  obtain ⟨t, rfl⟩ := ru
  obtain ⟨its, rv, pl, _⟩ := I.list hs
  obtain ⟨as, ra⟩ := Dp.readsAll I _ _ its (dp_strs ns) rv
  refine SeqAt.count_list_data pl.isList (by simpa using ra) (Reads.str z t) (plain_strs ns) rfl ?_ ?_
  · have := depth_strs ns
    have := Nat.min_le_left (PyData.depthAll (ns.map PyData.str)) (PyData.depth (.str z))
    omega
  · rw [cnt_strs]
    exact ⟨.int (ns.count z : Nat), H, I.tok _, ⟨s.toks, rfl⟩, q⟩
end
end Px
set_option maxHeartbeats 4000000
/-! t * k for any k from 0 on, t a tuple with items. -/
namespace Px
open PySem PySem.Spec PyProof.Rows L2 Bx TL Dx Zx Ow
theorem mul_one (l : Addr) (its : Array Value) (n : Nat) (dd : Option Addr) (sl : Array (Option Value)) (u : Tok) :
    Meets (Builtin.«tuple.__mul__» ⟨[.ref l, .int 1 u], []⟩) (fun _ R s => s.heap.get? l = some { cls := .type "tuple", dict := dd, data := .seq its n, slots := sl } ∧ R (.ok (.ret (.ref l))) s) :=
  .of_wp fun prog w A R s h => by
    obtain ⟨hp, g, d, tk, os⟩ := s
    obtain ⟨hl, h⟩ := h
    have f1 := AutoSeq1.idx_int
    have c1 : (its.isEmpty || (1 : Int) == 1) = true := by rw [show ((1 : Int) == 1) = true from rfl, Bool.or_true]
    wp_walk using wpAny_loadPart' hl
    repeat (first
      | (refine wpAny_ite_true (decide_eq_true c1) ?_; wp_walk using wpAny_loadPart' hl)
      | (refine wpAny_ite_false (by decide) ?_; wp_walk using wpAny_loadPart' hl))
    exact ⟨_, rfl, h⟩
theorem mul_nil (l : Addr) (its : Array Value) (n : Nat) (dd : Option Addr) (sl : Array (Option Value)) (u : Tok) (hi : its.isEmpty = false) :
    Meets (Builtin.«tuple.__mul__» ⟨[.ref l, .int 0 u], []⟩) (fun _ R s => s.heap.get? l = some { cls := .type "tuple", dict := dd, data := .seq its n, slots := sl } ∧
      R (.ok (.ret (Value.ref s.heap.objs.size))) { s with heap := s.heap.push { cls := Value.type "tuple", data := Data.seq #[] }, toks := s.toks }) :=
  .of_wp fun prog w A R s h => by
    obtain ⟨hp, g, d, tk, os⟩ := s
    obtain ⟨hl, h⟩ := h
    have f1 := AutoSeq1.idx_int
    have c1 : (its.isEmpty || (0 : Int) == 1) = false := by rw [hi]; rfl
    wp_walk using wpAny_loadPart' hl
    repeat (first
      | (refine wpAny_ite_false (decide_eq_false (by rw [c1]; exact Bool.false_ne_true)) ?_; wp_walk using wpAny_loadPart' hl)
      | (refine wpAny_ite_true (by decide) ?_; wp_walk using wpAny_loadPart' hl)
      | (refine wpAny_ite_false (by decide) ?_; wp_walk using wpAny_loadPart' hl))
    exact ⟨_, rfl, h⟩
def rRepA (K : PySem.W.Frag) : R2 := fun x y H Q => ∃ (l : Addr) (k : Nat) (xs : List V), x = .ref l ∧ y = .int (k : Int) ∧ SqT K H l xs ∧ xs ≠ [] ∧ k ≤ 1000 ∧ xs.length ≤ 1000 ∧ (k = 1 → Q (.ref l) H) ∧ (k ≠ 1 → ∀ p, H p = none → Q (.ref p) (upd H p (.tup (List.replicate k xs).flatten)))
theorem op_repA {X : Cx} : OpR X (binaryOp .Mult) (rRepA X.K) := by
  intro pins s σ H x y v u Q I rx ry h
  obtain ⟨l, k, xs, rfl, rfl, hT, hne, hk, hx, q1, q2⟩ := h
  by_cases h2 : 2 ≤ k
  · exact op_repT pins s σ H _ _ v u Q I rx ry ⟨l, (k : Int), xs, rfl, rfl, hT, hne, by omega, by omega, hx, fun p np => q2 (by omega) p np⟩
  · cases rx
    obtain ⟨t, rfl⟩ := ry
    obtain ⟨its, rv, ⟨⟨cls, dd, data, sl⟩, ho, hc, n, hd⟩, hsz⟩ := I.tuple hT
    simp only at hc hd
    subst hc hd
    have hi : its.toArray.isEmpty = false := by
      cases its with
      | nil =>
        cases rv
        exact absurd rfl hne
      | cons a b => rfl
    have hT2 : s.TypeIs (.ref l) "tuple" := ⟨_, ho, rfl⟩
    have go : ∀ {Z : Value → Shared → Prop} {D : Value → Shared → Prop}, wpAny (model X.prog X.w) X.A (call (.builtin "tuple.__mul__") [.ref l, .int (k : Int) t]) Z D s → wpAny (model X.prog X.w) X.A (binaryOp .Mult (.ref l) (.int (k : Int) t)) Z D s := fun {Z D} z =>
      wpAny_binaryOp_repeat_ref (T := "tuple") (U := "int") (by decide) hT2 (fun z => typeIs_int z (k : Int) t) noFill_tuple_mul F.fills_int_mul F.slot_int_rmul repeat_tuple F.slot_int_index.lookup
        (call_meets F.slot_int_rmul (typeIs_int s (k : Int) t) F.entry_int_rmul (F.args_int_rmul_2 _ _) (int_rmul_tuple (k : Int) t l its.toArray n dd sl) ⟨ho, rfl, hT2, z⟩)
    refine go ?_
    rcases (show k = 0 ∨ k = 1 by omega) with rfl | rfl
    · refine call_meets F.slot_tuple_mul hT2 F.entry_tuple_mul (F.args_tuple_mul_2 _ _) (mul_nil l its.toArray n dd sl t hi) ⟨ho, ?_⟩
      exact ⟨.ref s.heap.objs.size, _, I.laid (t' := s.toks) (o := .tup []) (fun b ob q => Heap.get?_push_of_some _ q) (Nat.le_refl _) ⟨Nat.zero_le _, [], .nil, IsTup.new _ _⟩, rfl, q2 (by omega) _ (I.hok.fresh (Nat.le_refl _))⟩
    · exact call_meets F.slot_tuple_mul hT2 F.entry_tuple_mul (F.args_tuple_mul_2 _ _) (mul_one l its.toArray n dd sl t) ⟨ho, .ref l, H, I, rfl, q1 rfl⟩
end Px
/-! try with several clauses, each of which names the error by the same name. -/
namespace Px
open PySem PySem.Spec PyProof.Rows L2 Bx TL Dx Zx Ow
abbrev Cl := Value × (Addr → Value → Option Addr → TS)
/-- the ends of a suite behind which slot i is taken away -/
def gone (i : Nat) (D : Ends) : Ends := { nx := fun σ H => D.nx (σ.set i none) H, rt := D.rt, bk := fun σ H => D.bk (σ.set i none) H, ct := fun σ H => D.ct (σ.set i none) H }
def wAsM (K : PySem.W.Frag) (i : Nat) (W0 : WX) (D : Ends) : List Cl → WX
  | [] => W0
  | c :: r => fun cls d σ H => ∃ b, PySem.W.exmOne K cls c.1 = some b ∧ (b = true → ∀ a, H a = none → c.2 a cls d (gone i D) (σ.set i (some (.ref a))) H) ∧ (b = false → wAsM K i W0 D r cls d σ H)
inductive HdA (X : Cx) (n : Str) : List ExceptHandler → List Cl → Prop
  | nil : HdA X n [] []
  | cons {x : Str} {c : Cl} {b0 : Stmt} {bs : List Stmt} {p1 p2 : Pos} {hs : List ExceptHandler} {l : List Cl} (nm : Names X x c.1)
      (su : ∀ (a : Addr) (o : Obj) (cls : Value) (d : Option Addr) (pn : List (Addr × Obj)), Zc cls d o → (∃ vs, o.data = .fields vs) → PSs (X.suite a ((a, o) :: pn)) (b0 :: bs) (c.2 a cls d)) (r : HdA X n hs l) :
      HdA X n (.ExceptHandler (some (.Name x p1)) (some n) (b0 :: bs) p2 :: hs) (c :: l)
section
variable {X : Cx} {n : Str} {i : Nat} {body : List Stmt} {h0 : ExceptHandler} {hs : List ExceptHandler} {l : List Cl} {pos : Pos} {tb : WX → TS} {W0 : WX}
theorem ps_tryA (hst : X.stack = X.env :: X.outer) (hfr : X.env.frame = some X.env.locals) (nd : X.N.Nodup) (hi : X.N[i]? = some n) (loc : X.env.kindOf n = some .local) (tk : Takes X W0)
    (hb : ∀ (W : WX) (pn : List (Addr × Obj)) (xe : Value → Shared → Prop), Takes (X.tr pn xe) W → PassesOwn (model X.prog X.w) X.A X.env xe → PSs (X.tr pn xe) body (tb W)) (hh : HdA X n (h0 :: hs) l) :
    PS X (.Try body (h0 :: hs) [] [] pos) (fun D σ H => tb (wAsM X.K i W0 D l) D σ H) := by
  refine ⟨fun pins s σ H D I h => wpAny_Try_except ?_⟩
  have ok := I.ok
  have fr2 : X.A.frames = some (X.env :: X.outer) := by rw [ok.frames, hst]
  refine wpAny_mono ((hb (wAsM X.K i W0 D l) (X.pn ++ pins) (fun e t1 => wpAny (model X.prog X.w) X.A (noteFrame e X.env) (fun _ t2 => wpAny (model X.prog X.w) X.A (setFlight e none) (fun _ t3 => wpAny (model X.prog X.w) X.A (handleBy e X.env (h0 :: hs)) (SP X pins D) X.xe t3) X.xe t2) X.xe t1)
    (fun er s' got => ?_) PassesOwn.looking).run [] s σ H D (I.toTry _) h) (fun fl s1 hsp => ?_) (fun er s1 he => he)
  · obtain ⟨a, B, sI, pins2, τ, G, cls, d, rfl, J0, nb, up, sky, na, os, ag, wish⟩ := got
    have J : Inv X pins τ G sI := J0.ofTry ok
    have sk2 : Sky B (X.env :: X.outer) a (Zc cls d) X.env.locals s'.heap := by rw [← hst]; exact sky
    show wpAny (model X.prog X.w) X.A (noteFrame (.ref a) X.env) _ _ _
    refine Sky.land Zc.steady fr2 hfr sk2 fun h3 fl3 up3 => ?_
    have J3 : Inv X pins τ G { s' with heap := h3 } := J.landed nb fl3.1 (up.trans up3) os ag
    obtain ⟨o3, v3, ho3, hz3, hd3⟩ := fl3.there
    have out : a ∉ frs (X.env :: X.outer) := fun hm => by
      obtain ⟨_, o2, ho2, no⟩ := fl3.2.2.1.mem hm
      rw [ho3] at ho2
      cases ho2
      exact no _ hd3
    have nL : a ≠ X.env.locals := fun z => out (List.mem_filterMap.mpr ⟨X.env, List.mem_cons_self, hfr.trans (congrArg some z.symm)⟩)
    have nF : a ∉ X.fs := fun hm => by
      obtain ⟨e, he, q⟩ := List.mem_filterMap.mp hm
      exact out (List.mem_filterMap.mpr ⟨e, List.mem_cons_of_mem _ he, q⟩)
    have S3 := J3.suite ho3 hd3 na nL nF
    have go : ∀ {hs2 : List ExceptHandler} {l2 : List Cl}, HdA X n hs2 l2 → wAsM X.K i W0 D l2 cls d τ G → wpAny (model X.prog X.w) X.A (handleBy (.ref a) X.env hs2) (SP X pins D) X.xe { s' with heap := h3 } := by
      intro hs2 l2 hk
      induction hk with
      | nil =>
        intro wish
        refine wpAny_handleBy_nil ?_
        obtain ⟨_, _, _, o4, v4, T, _, _, ho4, _, hd4, hT, _⟩ := id fl3
        unfold PySem.passOn
        refine wpAny_bind (wpAny_field ho4 hd4 hT ?_)
        rw [if_neg (show ¬ ((Value.ref T == Value.none) = true) from Bool.false_ne_true)]
        have last : wpAny (model X.prog X.w) X.A (setFlight (.ref a) X.env.frame) (fun _ t => wpAny (model X.prog X.w) X.A (throw (.ref a) : Sem Flow) (SP X pins D) X.xe t) X.xe { s' with heap := h3 } := by
          rw [hfr]
          refine HandSPX.setFlight_upZ fl3 fun h4 hh4 up4 => wpAny_throw (tk _ _ ⟨a, B, sI, pins, τ, G, cls, d, rfl, J, nb, (up.trans up3).trans up4, .inr (.inr ?_), na, os, ag, wish⟩)
          rw [hst]
          exact hh4
        first
          | exact wpAny_bind (wpAny_pure (wpAny_bind last))
          | exact wpAny_bind last
      | @cons x c b0 bs p1 p2 hs3 l3 nm su r ih =>
        intro wish
        obtain ⟨b, eb, yes, no⟩ := wish
        refine wpAny_handleBy_cons (codeAny_handlers_test ?_) (by intro q; cases q)
        have LT : PySem.W.Looks (model X.prog X.w) h3 (typeOf (.ref a)) cls := fun A Q E t k q => wpAny_typeOf_ref (k _ _ ho3) (by rw [hz3.1]; exact q)
        have LM := PySem.W.exm_one (M := model X.prog X.w) J3.kIn LT eb
        have look : ∀ {Q : Value → Shared → Prop} {E : Value → Shared → Prop}, Q c.1 { s' with heap := h3 } → wpAny (model X.prog X.w) (X.A.mark (some (.ref a))) (eval (.Name x p1) X.env) Q E { s' with heap := h3 } := fun {Q E} q => by
          obtain ⟨hg, hdb, hm | ⟨hm, hv, hnn⟩⟩ := nm
          · exact ld_glob (X := X.suite a ((a, o3) :: (X.pn ++ pins))) S3 hg hm q hdb
          · exact ld_blt (X := X.suite a ((a, o3) :: (X.pn ++ pins))) S3 hg hm hv q hnn hdb
        refine look (LM.here ?_)
        cases b with
        | false =>
          show wpAny _ X.A (handleBy (.ref a) X.env hs3) _ _ _
          exact ih (no rfl)
        | true =>
          refine codeAny_handlers_suite_as (HandSPX.lands_againZ fl3 fun h4 fl4 up4 => ?_)
          have J4 : Inv X pins τ G { s' with heap := h4 } := J.landed nb fl4.1 ((up.trans up3).trans up4) os ag
          obtain ⟨o4, v4, ho4, hz4, hd4⟩ := fl4.there
          refine store_ok (X := X.suite a ((a, o4) :: (X.pn ++ pins))) (v := .ref a) (J4.suite ho4 hd4 na nL nF) nd hi (.inl loc) rfl (fun s5 S5 => ?_) (.inr loc)
          refine wpAny_mono ((su a o4 cls d (X.pn ++ pins) hz4 ⟨_, hd4⟩).run [] s5 _ G _ S5 (yes rfl a na)) (fun fl s6 hsp => ?_) (fun _ _ z => False.elim z)
          have out6 : ∀ {ρ : L2.St} {H6 : Hp} {Q : Shared → Prop}, Inv (X.suite a ((a, o4) :: (X.pn ++ pins))) [] ρ H6 s6 → (∀ s7, Inv X pins (ρ.set i none) H6 s7 → Q s7) → wpAny (model X.prog X.w) X.A (do bindName X.env n .none; unbindBehindTheSuite X.env n p2) (fun _ s7 => Q s7) X.xe s6 :=
            fun S6 hq => gone_ok (S6.unsuite ok) nd hi loc hq
          match fl, hsp with
          | .next, ⟨ρ, H6, S6, q⟩ => exact out6 S6 fun s7 J7 => ⟨_, _, J7, q⟩
          | .brk, ⟨ρ, H6, S6, q⟩ => exact out6 S6 fun s7 J7 => ⟨_, _, J7, q⟩
          | .cont, ⟨ρ, H6, S6, q⟩ => exact out6 S6 fun s7 J7 => ⟨_, _, J7, q⟩
          | .ret u, ⟨v6, ρ, H6, S6, r6, q⟩ => exact out6 S6 fun s7 J7 => ⟨_, _, _, J7, r6, q⟩
    exact go hh wish
  · match fl, hsp with
    | .next, ⟨ρ, G, J, q⟩ => exact wpAny_execs_nil ⟨ρ, G, J.ofTry ok, q⟩
    | .brk, ⟨ρ, G, J, q⟩ => exact ⟨ρ, G, J.ofTry ok, q⟩
    | .cont, ⟨ρ, G, J, q⟩ => exact ⟨ρ, G, J.ofTry ok, q⟩
    | .ret u, ⟨v, ρ, G, J, rv, q⟩ => exact ⟨v, ρ, G, J.ofTry ok, rv, q⟩
end
end Px
/-! list(o), o of an own class with `__iter__` over a tuple and `__len__`. -/
namespace Px
open PySem PySem.Spec PyProof.Rows L2 Bx TL Dx Zx Ow
section
variable {X : Cx} {pins : List (Addr × Obj)} {σ : L2.St} {H : Hp} {s : Shared} {C p dx : Addr} {fs : List (Str × V)} {k : Nat} {ps : List Str} {sp : Sp} {A1 : Around} {E1 : Value → Shared → Prop}
theorem len_at {Q : Value → Shared → Prop} (sb : Sub X (k + 1) A1) (c : OwM X.prog X.w X.K X.mg X.base CX0 C "__len__" k ps sp) (I : Inv X pins σ H s) (ha : H p = some (.ins C dx fs)) (hsp : sp [.ref p] H (fun v G => G = H ∧ ∃ n : Nat, v = .int (n : Int) ∧ n ≤ 1000) E0)
    (q : ∀ (n : Nat) t s', n ≤ 1000 → Inv X pins σ H s' → Q (.int (n : Int) t) s') : wpAny (model X.prog X.w) A1 (call (.builtin "len") [.ref p]) Q E1 s := by
  obtain ⟨f, fd, ok, hs, hf, _, hb⟩ := c.ex
  obtain ⟨od, J⟩ := inst_of I ha
  obtain ⟨m, hF⟩ := I.fr
  refine PySem.W.len_K hF I.ok.mod.kin J hs hf ?_
  refine wpAny_mono (call_at sb.in1 ok hb I (vs := [.ref p]) (.cons rfl .nil) hsp (fun e s' z => z.elim)) (fun u s' hu => ?_) (fun _ _ z => z)
  obtain ⟨v, G, I', rv, rfl, n, rfl, hn⟩ := hu
  obtain ⟨t, rfl⟩ := rv
  exact ⟨⟨by omega, by omega⟩, q n _ _ hn (I'.tok _)⟩
theorem hint_own {Q : Bool → Shared → Prop} (sb : Sub X (k + 1) A1) (c : OwM X.prog X.w X.K X.mg X.base CX0 C "__len__" k ps sp) (I : Inv X pins σ H s) (ha : H p = some (.ins C dx fs)) (hsp : sp [.ref p] H (fun v G => G = H ∧ ∃ n : Nat, v = .int (n : Int) ∧ n ≤ 1000) E0)
    (q : ∀ b s', Inv X pins σ H s' → Q b s') : wpAny (model X.prog X.w) A1 (Builtin.List.listLengthHint (.ref p)) Q E1 s := by
  obtain ⟨f, fd, ok, hs, hf, _, hb⟩ := id c.ex
  obtain ⟨od, J⟩ := inst_of I ha
  unfold Builtin.List.listLengthHint
  refine wpAny_bind (wpAny_bind (J.type.here ((PySem.W.looks_findIn I.kIn hs).here ?_)))
  refine PySem.W.KFB.if_not rfl ?_
  show wpAny _ _ (rule _ >>= _) _ _ _
  refine wpAny_bind (wpAny_rule ?_)
  refine wpAny_bind (wpAny_attempt (len_at sb c I ha hsp fun n t s' hn I' => ?_))
  show wpAny _ _ (asInt? (Value.int (n : Int) t) >>= _) _ _ _
  refine wpAny_bind (wpAny_pure ?_)
  refine PySem.W.KFB.if_not ?_ (wpAny_pure (q _ s' I'))
  show decide ((n : Int).toNat > sizeLine) = false
  rw [sizeLine_eq]
  exact decide_eq_false (by omega)
/-- the iterator of o, where `__iter__` gives iter(self.f) -/
theorem iter_at {f : Str} {t : Addr} {zs : List V} {Q : Value → Shared → Prop} (sb : Sub X k A1) (c : ItM X.prog X.w X.K X.mg X.base C f k) (I : Inv X pins σ H s) (ha : H p = some (.ins C dx fs)) (hl : fs.lookup f = some (.ref t)) (hz : SqT X.K H t zs)
    (q : ∀ it s', Inv X pins σ H s' → s'.heap.IsTupleIter it t 0 → FpOk X pins H it → Q (.ref it) s') : wpAny (model X.prog X.w) A1 (pyIter (.ref p)) Q E1 s := by
  obtain ⟨fi, hfi, hf, go⟩ := c.ex
  obtain ⟨od, J⟩ := inst_of I ha
  obtain ⟨m, hF⟩ := I.fr
  refine PySem.W.owit_iter hF I.ok.mod.kin J hfi hf ?_
  have z0 := I.env0
  have e0 : Env0 X.prog X.w X.K X.mg X.base A1 X.stack s H := ⟨by rw [sb.fr]; exact z0.frames, z0.mod, z0.bs, z0.bsz, z0.funs, z0.frf, z0.hok, z0.bare⟩
  refine wpAny_call (codeAny_mono (go A1 X.stack s H E0 p dx t fs zs sb.room e0 ha hl hz) fun res s' back => ?_)
  match res, back with
  | .error e, back => exact back.elim
  | .ok .next, back => exact back.elim
  | .ok .brk, back => exact back.elim
  | .ok .cont, back => exact back.elim
  | .ok (.ret u), back =>
    obtain ⟨v, G, I2, rv, it, rfl, n1, hy, rfl⟩ := I.after back
    cases rv
    have e2 : upd H it (TiO t it) it = some (TiO t it) := upd_same
    have hit : s'.heap.IsTupleIter it t 0 := by
      have : ObjOk X.prog X.w (upd H it (TiO t it)) s'.heap it (.ext fun h => h.IsTupleIter it t 0) := I2.hok it _ e2
      exact this.1
    show wpAny _ _ (specialOf (.ref it) "__next__") _ _ _
    refine wpAny_specialOf (name := Str.ofString "__next__") hit.typeIs PySem.F.slot_tuple_iterator_next.lookup ?_
    have I3 := ItX.inv_drop I2 e2
    have fp := ItX.inv_fp I2 e2 (Nat.le_trans I.sz hy)
    rw [ItX.dropH_upd n1] at I3 fp
    exact q it s' I3 hit fp
theorem ext_loop {L it t : Addr} {zs : List V} {Rs : Result → Shared → Prop} (hc : X.calm = true) (hL : H L = some (.lst [])) (hz : SqT X.K H t zs) (hzl : zs.length ≤ 1000) (fp : FpOk X pins H it)
    (done : ∀ s', Inv X pins σ (upd H L (.lst zs)) s' → Rs (.ok (.ret .none)) s') :
    ∀ (m i : Nat) (s : Shared), zs.length - i = m → i ≤ zs.length → Inv X pins σ (upd H L (.lst (zs.take i))) s → s.heap.IsTupleIter it t i → codeAny (model X.prog X.w) X.A.in1 (.builtin "list.extend.loop" ⟨[.ref L, .ref it, .none], []⟩) Rs s := by
  have hzi : ∀ ys, SqT X.K (upd H L (.lst ys)) t zs := fun ys => by
    rcases hz with (h | ⟨u, h⟩) | h
    · exact .inl (.inl (by rw [upd_ne fun z => by rw [z, hL] at h; cases h]; exact h))
    · exact .inl (.inr ⟨u, by rw [upd_ne fun z => by rw [z, hL] at h; cases h]; exact h⟩)
    · exact .inr h
  have hit : it ≠ L := fun z => by
    have := fp.1
    rw [z, hL] at this
    cases this
  have fpi : ∀ ys, FpOk X pins (upd H L (.lst ys)) it := fun ys => ⟨by rw [upd_ne hit]; exact fp.1, fp.2⟩
  intro m
  induction m with
  | zero =>
    intro i s hm hi I st
    have e : i = zs.length := by omega
    subst e
    obtain ⟨its, rv, pt, _⟩ := I.tuple (hzi _)
    obtain ⟨f0, f1, f2, f3, f4, f5⟩ := fpi (zs.take zs.length)
    have hl := rv.length
    refine codeAny_builtin PySem.F.entry_extend_loop ?_
    rw [Around.under_plainId PySem.F.plain_extend_loop _]
    show wpAny _ X.A.in1.in1 (pyNext (.ref it) >>= _) _ _ s
    refine wpAny_bind (wpAny_pyNext_tuple_end (I.ok.hd hc) st (show s.heap.IsTuple t its.toArray from pt) (by simp; omega) fun h' eb => ?_)
    have I1 : Inv X pins σ (upd H L (.lst (zs.take zs.length))) { s with heap := h' } := I.turned (t' := s.toks) (fun b o hb e => eb b o hb e) f0 f1 f3 f4 f5
    rw [List.take_length] at I1
    exact wpAny_pure (done _ I1)
  | succ m ih =>
    intro i s hm hi I st
    have hlt : i < zs.length := by omega
    obtain ⟨its, rv, pt, _⟩ := I.tuple (hzi _)
    obtain ⟨u, hu, ru⟩ := rv.get (List.getElem?_eq_getElem hlt)
    obtain ⟨f0, f1, f2, f3, f4, f5⟩ := fpi (zs.take i)
    refine codeAny_builtin PySem.F.entry_extend_loop ?_
    rw [Around.under_plainId PySem.F.plain_extend_loop _]
    show wpAny _ X.A.in1.in1 (pyNext (.ref it) >>= _) _ _ s
    refine wpAny_bind (wpAny_pyNext_tuple_item st (show s.heap.IsTuple t its.toArray from pt) (x := u) (by simpa using hu) fun h' st' sb => ?_)
    have I1 : Inv X pins σ (upd H L (.lst (zs.take i))) { s with heap := h' } := I.turned (t' := s.toks) (fun b o hb e => (sb.2 b hb).trans e) f0 f1 f3 f4 f5
    obtain ⟨z, js, c, rj, hjl, ej⟩ := I1.lstM upd_same
    have tl : (zs.take i).length = i := by rw [List.length_take]; omega
    have jl : js.length = i := by rw [← rj.length, tl]
    show wpAny _ X.A.in1.in1 (updateSeq L (·.push u) >>= _) _ _ _
    have I2 := I1.lset (f := (·.push u)) (its := js) (its' := js ++ [u]) (ys := zs.take (i + 1)) (t' := s.toks) upd_same ej (by simp) (by rw [List.take_add_one, List.getElem?_eq_getElem hlt]; exact rj.append (.cons ru .nil)) (by rw [List.length_take, sizeLine_eq]; omega)
    rw [upd_upd] at I2
    refine wpAny_bind (wpAny_updateSeq ej rfl (wpAny_pure ⟨plainId_quiet PySem.F.plain_extend_loop _, ih (i + 1) _ (by omega) hlt I2 ?_⟩) (by rw [List.size_toArray, jl, sizeLine_eq]; omega) (by show (js.toArray.push u).size ≤ sizeLine + 1; rw [Array.size_push, List.size_toArray, jl, sizeLine_eq]; omega))
    exact st'.at fun o e => (Heap.get?_update_other _ _ (Ne.symm hit)).trans e
def rListO (K : PySem.W.Frag) (C : Addr) (f : Str) (sp : Sp) : List V → Hp → VK → Prop := fun xs H Q => ∃ (p dx t : Addr) (fs : List (Str × V)) (zs : List V), xs = [.ref p] ∧ H p = some (.ins C dx fs) ∧ fs.lookup f = some (.ref t) ∧ SqT K H t zs ∧ zs.length ≤ 1000 ∧
  (∀ G, (∀ b o, H b = some o → G b = some o) → sp [.ref p] G (fun v G' => G' = G ∧ ∃ n : Nat, v = .int (n : Int) ∧ n ≤ 1000) E0) ∧ ∀ q, H q = none → Q (.ref q) (upd H q (.lst zs))
theorem call_listO {f : Str} (hc : X.calm = true) (ci : ItM X.prog X.w X.K X.mg X.base C f k) (cl : OwM X.prog X.w X.K X.mg X.base CX0 C "__len__" k ps sp) (hr : Room (k + 3) X.A) : CallR X (.type "list") (rListO X.K C f sp) := by
  intro pins s σ H xs us Q I rv h
  obtain ⟨p, dx, t, fs, zs, rfl, hp, hl, hz, hzl, hsp, q⟩ := h
  obtain ⟨u, rfl, ru⟩ := rv.one
  cases ru
  have sb : Sub X (k + 1) X.A.in1.in1 := Sub.in1 (Sub.in1 (sub_self hr))
  refine callType_codes (Q₁ := fun obj s1 => obj = .ref s.heap.objs.size ∧ s1 = { s with heap := s.heap.push { cls := .type "list", data := .seq #[] } }) PySem.F.called_list (PySem.F.typeCall_list_1 _) PySem.F.entry_list_init (code_list_new _ ⟨rfl, rfl⟩) fun obj s1 h1 => ?_
  obtain ⟨rfl, rfl⟩ := h1
  have hS : (s.heap.push { cls := .type "list", data := .seq #[] }).get? s.heap.objs.size = some { cls := .type "list", data := .seq #[] } := Heap.get?_push_size _ rfl
  refine ⟨⟨_, hS, rfl⟩, PySem.F.args_list_init_2 _ _, ?_⟩
  have fr : H s.heap.objs.size = none := I.hok.fresh (Nat.le_refl _)
  have I1 : Inv X pins σ (upd H s.heap.objs.size (.lst [])) { s with heap := s.heap.push { cls := .type "list", data := .seq #[] } } := I.lnew (its := []) (t' := s.toks) .nil (Nat.zero_le _)
  have q2 := q _ fr
  have sm : Same H (upd H s.heap.objs.size (.lst [])) := same_new fr
  generalize hLd : s.heap.objs.size = L at hS fr I1 q2 sm ⊢
  show wpAny _ _ (do let old ← Builtin.List.listItems (.ref L); Builtin.List.listUpdate (.ref L) (fun _ => #[]); letGo old.toList.reverse; Builtin.List.listExtendWith (.ref L) (.ref p) .none) _ _ _
  refine wpAny_bind ?_
  unfold Builtin.List.listItems
  refine wpAny_bind (wpAny_seqItems hS rfl (wpAny_pure ?_))
  show wpAny _ _ (updateSeq L (fun _ => #[]) >>= fun _ => letGo (#[] : Array Value).toList.reverse >>= fun _ => Builtin.List.listExtendWith (.ref L) (.ref p) .none) _ _ _
  refine wpAny_bind (wpAny_updateSeq hS rfl ?_)
  have I2 := I1.lset (f := fun _ => #[]) (its := []) (its' := []) (ys := []) (t' := s.toks) upd_same hS rfl .nil (Nat.zero_le _)
  rw [upd_upd] at I2
  refine wpAny_bind (wpAny_letGo ?_)
  have hp2 := sm _ _ hp
  have hz2 := Bx.Same.tup sm hz
  have hsp2 := hsp _ sm
  have hL2 : upd H L (.lst []) L = some (.lst []) := upd_same
  have hne : L ≠ p := fun z => by rw [← z, fr] at hp; cases hp
  have fin : ∀ s', Inv X pins σ (upd (upd H L (.lst [])) L (.lst zs)) s' → EP X pins σ Q (.ref L) s' := fun s' I' => by
    rw [upd_upd] at I'
    exact ⟨.ref L, _, I', rfl, q2⟩
  clear q2 q hsp I1 I hS
  obtain ⟨mA, J, _⟩ := ins_get I2.hok hp2
  obtain ⟨od, J, _⟩ := J.look
  unfold Builtin.List.listExtendWith
  refine wpAny_bind (J.type.here ?_)
  have e1 : Builtin.List.listSameRef (.ref L) (.ref p) = false := by simp [Builtin.List.listSameRef, hne]
  have e2 : (Value.ref C == Value.type "list") = false := rfl
  have e3 : (Value.ref C == Value.type "tuple") = false := rfl
  simp only [e1, e2, e3, Bool.or_false, Bool.false_eq_true, if_false]
  refine wpAny_bind (iter_at (sb.mono (Nat.le_succ _)) ci I2 hp2 hl hz2 fun it s2 I3 hit fp => ?_)
  obtain ⟨oi, hoi, hci, hdi⟩ := id hit
  have Ip := I3.pinned (fp := [it]) (fun b hb => by rw [List.mem_singleton.mp hb]; exact fp) (fun b hb => by rw [List.mem_singleton.mp hb]; exact ⟨oi, hoi, fun v z => by rw [hdi] at z; cases z⟩)
  refine wpAny_bind (wpAny_holding (hint_own sb cl Ip hp2 hsp2 fun b s3 I4 => ?_))
  have hit3 : s3.heap.IsTupleIter it t 0 := hit.at fun o e => (I4.pin (it, o) (List.mem_append_right _ (List.mem_append_right _ (mem_pinsAt List.mem_cons_self e)))).1
  have I5 := I4.unpinned
  have run : ∀ s5, Inv X pins σ (upd (upd H L (.lst [])) L (.lst (zs.take 0))) s5 → s5.heap.IsTupleIter it t 0 → codeAny (model X.prog X.w) X.A.in1 (.builtin "list.extend.loop" ⟨[.ref L, .ref it, .none], []⟩) (wants (fun r s6 => r = .none ∧ EP X pins σ Q (.ref L) s6) X.xe) s5 := fun s5 J5 st5 =>
    ext_loop hc hL2 hz2 hzl fp (fun s6 J6 => ⟨rfl, fin s6 J6⟩) _ 0 s5 rfl (Nat.zero_le _) J5 st5
  have hH : upd (upd H L (.lst [])) L (.lst (zs.take 0)) = upd H L (.lst []) := upd_upd
  rw [hH] at run
  have hneL : it ≠ L := fun z => by
    have := fp.1
    rw [z, hL2] at this
    cases this
  refine wpAny_ite_split (fun _ => wpAny_bind (wpAny_rule (wpAny_bind ?_))) (fun _ => wpAny_pure ⟨plainId_quiet PySem.F.plain_extend_loop _, run s3 I5 hit3⟩)
  obtain ⟨z1, j1, c1, r1, l1, w1⟩ := I5.lstM hL2
  cases r1
  show wpAny _ _ (updateSeq L (·.push .none) >>= fun _ => updateSeq L (·.pop)) _ _ s3
  have K1 := I5.lset (f := (·.push Value.none)) (its' := [Value.none]) (ys := [.non]) (t' := s3.toks) hL2 w1 (by simp) (.cons rfl .nil) (by rw [sizeLine_eq]; decide)
  refine wpAny_bind (wpAny_updateSeq w1 rfl ?_)
  obtain ⟨z2, j2, c2, r2, l2, w2⟩ := K1.lstM upd_same
  obtain ⟨u2, rfl, _⟩ := r2.one
  have K2 := K1.lset (f := (·.pop)) (its := [u2]) (its' := []) (ys := []) (t' := s3.toks) upd_same w2 rfl .nil (Nat.zero_le _)
  rw [upd_upd, upd_upd] at K2
  refine wpAny_updateSeq w2 rfl (wpAny_pure ⟨plainId_quiet PySem.F.plain_extend_loop _, run _ K2 ?_⟩) (by show 1 ≤ sizeLine; rw [sizeLine_eq]; decide) (Nat.zero_le _)
  exact hit3.at fun o e => (Heap.get?_update_other _ _ (Ne.symm hneL)).trans ((Heap.get?_update_other _ _ (Ne.symm hneL)).trans e)
end
end Px
/-! o.m(..) where a method that may raise does not; C.m(..) of a classmethod. -/
namespace Px
open PySem PySem.Spec PyProof.Rows L2 Bx TL Dx Zx Ow
structure CmC (P : Program) (w : World) (K : PySem.W.Frag) (mg : Str → Option Value) (base : Heap) (C : Addr) (m : Str) (k : Nat) (sp : Sp) : Prop where
  ex : ∃ (mc : Value) (p g : Addr), ClX.CRead K C mc ∧ ClX.CMet K C mc m p g ∧ FnR P w K mg base CX0 k g sp
section
variable {X : Cx} {k : Nat} {ps : List Str} {sp : Sp} {o e : Expr} {es : List Expr} {t : TA} {apos pos : Pos} {C : Addr} {m : Str} {to : TE} {pl : Sem Bool}
theorem pe_mthN (c : MthX X.prog X.w X.K X.mg X.base C m k ps sp) (hr : Room k X.A) (ho : PE X o to) (ha : PA X (e :: es) t)
    (hst : starEach (e :: es) X.env = (false, eval e X.env) :: starEach es X.env := by rfl) (hpl : (backTo pos (starEach es X.env)).any (·.1) = false := by rfl)
    (ht : eval (.Call (.Attribute o m apos) (e :: es) [] pos) X.env = (do
      let ov ← eval o X.env
      standAt apos.atName
      let (f, first) ← holding [ov] (getMethod ov m pl)
      callWith pos f first (backTo pos (starEach (e :: es) X.env)) (backToKw pos (keywordEach [] X.env))) := by rfl) : PE X (.Call (.Attribute o m apos) (e :: es) [] pos) (tMeth C m sp [] E0 to t) := by
  obtain ⟨f, fd, cl, mt, ok, b⟩ := c.ex
  exact pe_meth (E := E0) ho cl mt ok hr b .nil passN ha hst hpl ht
theorem pe_cme (c : CmC X.prog X.w X.K X.mg X.base C m k sp) (hr : Room k X.A) (ho : PE X o to) (ha : PA X (e :: es) t)
    (hst : starEach (e :: es) X.env = (false, eval e X.env) :: starEach es X.env := by rfl) (hpl : (backTo pos (starEach es X.env)).any (·.1) = false := by rfl)
    (ht : eval (.Call (.Attribute o m apos) (e :: es) [] pos) X.env = (do
      let ov ← eval o X.env
      standAt apos.atName
      let (f, first) ← holding [ov] (getMethod ov m pl)
      callWith pos f first (backTo pos (starEach (e :: es) X.env)) (backToKw pos (keywordEach [] X.env))) := by rfl) : PE X (.Call (.Attribute o m apos) (e :: es) [] pos) (ClX.tCMeth C sp E0 to t) := by
  obtain ⟨mc, p, g, r, cm, F⟩ := c.ex
  exact ClX.pe_cmeth ho r cm F hr L2.pass0 ha hst hpl ht
/-- a property by its promise -/
structure PropC (P : Program) (w : World) (K : PySem.W.Frag) (mg : Str → Option Value) (base : Heap) (C : Addr) (m : Str) (k : Nat) (sp : Sp) : Prop where
  cl : Cls K C
  ex : ∃ (p g : Addr) (fd : FuncData), PropOf K C m p g ∧ FnOk P w K mg base CX0 k g fd ["self"] sp ∧ Binds K fd ["self"] []
theorem pe_propC {ta : TE} (c : PropC X.prog X.w X.K X.mg X.base C m k sp) (hr : Room (k + 1) X.A) (he : PE X e ta) (hab : attributeBase e m X.env (eval e X.env) = eval e X.env) : PE X (.Attribute e m pos) (tProp C sp [] E0 ta) := by
  obtain ⟨p, g, fd, hp, F, hb⟩ := c.ex
  exact pe_prop he c.cl hp F hr hb .nil L2.pass0 hab
end
end Px
/-! dicts whose keys are tuples: made by a comprehension. -/
namespace Dt
open PySem PySem.Spec PyProof.Rows L2 Bx TL Dx Zx
/-- the store of such a comprehension -/
theorem put_in {X : Cx} {pins : List (Addr × Obj)} {σ : L2.St} {H : Hp} {s : Shared} {E : Value → Shared → Prop} {D b : Addr} {kvs : List (List Key × V)} {k : List Key} {v : V} {r : Value} {Q : Unit → Shared → Prop} (hu : X.A.units < cLine) (J : Inv X pins σ H s) (hD : H D = some (.dT kvs)) (hl : kvs.length < sizeLine)
    (hb : H b = some (.tup (k.map kV))) (rv : RelV v r) (q : ∀ s', Inv X pins σ (upd H D (.dT (putK kvs k v))) s' → Q () s') : wpAny (model X.prog X.w) X.A (dictSet D (.ref b) r) Q E s := by
  obtain ⟨_, ns, xs, rel, dd⟩ := dt_of J.hok hD
  have small : xs.length ≤ sizeLine := by
    have := Paired.length rel
    omega
  have after : (putK kvs k v).length ≤ sizeLine := by
    have := length_putK kvs k v
    omega
  refine wpAny_dictSet_heap (hsz := small) hu (key_of J.hok hb) dd fun g dg sb => q _ ?_
  obtain ⟨ob, es, ep, ho, x2, x3, x4, _, x5⟩ := dg
  refine d_write J (by rw [hD]; exact True.intro) sb ⟨ob, ho⟩ ⟨after, ns, _, (rel.put k hb rv).keeps fun c ys e => ?_, ob, es, ep, ho, x2, x3, x4, x5⟩
  rw [upd_ne (ne_of e hD fun z => nomatch z)]
  exact e
end Dt
namespace Dt
open PySem PySem.Spec PyProof.Rows L2 Bx TL Dx Zx
section
variable {X : Cx}
/-- {k: v for target in iter if ..}, the keys tuples of ints and texts -/
def tDcT (wi : TI) (g : TG) (tt : TT) (tk tv : TE) (vs : List Nat) : TE := fun σ H Q => wi σ H fun J H1 => ∀ D, H1 D = none → ∃ W : Nat → Nat → Hp → Prop, (∃ m, W 0 m (upd H1 D (.dT []))) ∧ ∀ i m H, W i m H →
  (J.stop i H ∧ Q (.ref D) H) ∨ (J.go i H ∧ ∃ Nx : Hp → Prop, (∀ H', Nx H' → ∃ m', m' < m ∧ W (i + 1) m' H') ∧ ∀ x H', J.yld i H x H' → g x (wipe σ vs) H' fun σ2 H2 => wipe σ2 vs = wipe σ vs ∧ tt σ2 H2 fun b H3 =>
    if b = true then tk σ2 H3 fun y H4 => tv σ2 H4 fun z H5 => ∃ a kvs k, y = .ref a ∧ H5 a = some (.tup (k.map kV)) ∧ H5 D = some (.dT kvs) ∧ kvs.length < sizeLine ∧ Nx (upd H5 D (.dT (putK kvs k z))) else Nx H3)
end
end Dt
namespace Dt
open PySem PySem.Spec PyProof.Rows L2 Bx TL Dx Zx
section
variable {X : Cx}
/-- what holds between the turns: the block's slots are bare, the iterator stands at i, the measure is n -/
def Between (Y : Cx) (fp : List Addr) (tn : Nat → Heap → Prop) (W : Nat → Nat → Hp → Prop) (τ : L2.St) (n : Nat) (z : Shared) : Prop := ∃ i G, Inv Y [] τ G z ∧ tn i z.heap ∧ (∀ b ∈ fp, G b = none) ∧ W i n G
theorem dct_core {pins : List (Addr × Obj)} {s : Shared} {σ : L2.St} {H : Hp} {Q : VK} {kx vx tg iter : Expr} {ifs : List Expr} {scope : Scope} {own : List (Str × Nat)} {pos pos' : Pos} {wi : TI} {g : TG} {tt : TT} {tk tv : TE} {use : Option (Value → Sem Unit)} {Qf : Value → Shared → Prop}
    (hu : X.A.units < cLine) (calm : X.calm = true) (nod : X.N.Nodup) (J : Inv X pins σ H s) (walk : PI X tg iter wi) (ok : BlkOk X.N X.env.scope scope own)
    (pg : ∀ (z : Shared) (G : Hp) (C : Addr) (cl : List (Str × Addr)) (fp : List Addr), PG (X.blk z G scope (compEnvC scope cl C X.env) fp) tg g) (pt : ∀ (z : Shared) (G : Hp) (C : Addr) (cl : List (Str × Addr)) (fp : List Addr), PTs (X.blk z G scope (compEnvC scope cl C X.env) fp) ifs tt)
    (pk : ∀ (z : Shared) (G : Hp) (C : Addr) (cl : List (Str × Addr)) (fp : List Addr), PE (X.blk z G scope (compEnvC scope cl C X.env) fp) kx tk) (pv : ∀ (z : Shared) (G : Hp) (C : Addr) (cl : List (Str × Addr)) (fp : List Addr), PE (X.blk z G scope (compEnvC scope cl C X.env) fp) vx tv)
    (fold : ∀ x, foldedSetIterable iter X.env x = pure x) (want : tDcT wi g tt tk tv (own.map (·.2)) σ H Q)
    (back : ∀ D C z m G, Inv X pins σ G z → Q (.ref D) G → z.heap.Ns C m → FpOk X pins G C → compPost (model X.prog X.w) X.A X.xe use Qf (.ref D) C (.ok .next) z) :
    wpAny (model X.prog X.w) X.A (comprehension (.DictComp kx vx [⟨tg, iter, ifs, 0⟩] scope pos) scope X.env pos' newDict false (eval iter X.env) use) Qf X.xe s := by
  have free : ∀ y ∈ scope.names, y.2 = .free → ∃ c, X.env.cells.lookup y.1 = some c := fun y m e => (ok.free y m e).elim (fun k => J.ok.has _ (.inl k)) fun k => J.ok.has _ (.inr k)
  have names : ∀ y ∈ scope.names, y.2 = .local → scope.names.lookup y.1 = some .local := fun y m e => by
    have := ok.uniq y m
    rw [e] at this
    exact this
  refine wpAny_comprehension_free (use := use) rfl fold (closure_ok free) ok.kind names (thn (walk.run pins s σ H _ J want) fun first z1 got => thn got fun itv z2 ready => ?_)
  obtain ⟨it, fp, tn, I0, G2, rfl, J2, T, at0, out2, q⟩ := ready
  refine wpAny_newObj_type (newEnv_comp ?_)
  have bare : G2 z2.heap.objs.size = none := J2.hok.fresh (Nat.le_refl _)
  obtain ⟨W, ⟨n0, start⟩, turn⟩ := q _ bare
  have lo : ∀ b ∈ fp, b < z2.heap.objs.size := fun b m => by
    obtain ⟨u, hu2, _⟩ := T.obj _ _ at0 b m
    exact Heap.lt_size hu2
  have J3 : Inv X pins σ (upd G2 z2.heap.objs.size (.dT [])) { z2 with heap := z2.heap.push { cls := .type "dict", data := .dict #[] } } :=
    J2.laid (t' := z2.toks) (fun b o e => Heap.get?_push_of_some _ e) (Nat.le_refl _) (dt_empty z2.heap J2.big)
  have out3 : ∀ b ∈ fp, FpOk X pins (upd G2 z2.heap.objs.size (.dT [])) b ∧ b < (z2.heap.push { cls := .type "dict", data := .dict #[] }).objs.size := fun b m => by
    have l := lo b m
    refine ⟨⟨?_, (out2 b m).2⟩, ?_⟩
    · rw [upd_ne (Nat.ne_of_lt l)]
      exact (out2 b m).1
    · rw [Heap.size_push]
      exact Nat.lt_succ_of_lt l
  have at3 : tn 0 (z2.heap.push { cls := .type "dict", data := .dict #[] }) := T.keep _ _ _ at0 fun b _ o e => Heap.get?_push_of_some _ e
  generalize hD : z2.heap.objs.size = D at *
  generalize hz3 : ({ z2 with heap := z2.heap.push { cls := .type "dict", data := .dict #[] } } : Shared) = z3 at *
  have e3 : z3.heap = z2.heap.push { cls := .type "dict", data := .dict #[] } := by rw [← hz3]
  rw [← e3] at out3 at3
  have J4 := block_start J3 ok nod out3
  have bare3 : ∀ b ∈ fp, (upd G2 D (.dT [])) b = none := fun b m => (out3 b m).1.1
  generalize upd G2 D (.dT []) = G3 at J3 J4 bare3 out3 start
  generalize hcl : cellsFrom (z3.heap.objs.size + 1) scope.names (cloFrom X.env.cells scope.names []) = cl at J4 ⊢
  generalize hC : z3.heap.objs.size = C at *
  have g1 := pg z3 G3 C cl fp
  have g2 := pt z3 G3 C cl fp
  have g3 := pk z3 G3 C cl fp
  have g4 := pv z3 G3 C cl fp
  show codeAny _ _ (.compStart (.DictComp kx vx [⟨tg, iter, ifs, 0⟩] scope pos) 0 (.ref it) (.ref D) (compEnvC scope cl C X.env)) (compPost (model X.prog X.w) X.A X.xe use Qf (.ref D) C) { z3 with heap := pushCells (z3.heap.push { cls := .type "dict", data := .dict #[] }) scope.names }
  have at4 : tn 0 (pushCells (z3.heap.push { cls := .type "dict", data := .dict #[] }) scope.names) := T.keep _ _ _ at3 fun b _ o e => pushCells_keeps _ _ _ _ (Heap.get?_push_of_some _ e)
  generalize hz4 : ({ z3 with heap := pushCells (z3.heap.push { cls := .type "dict", data := .dict #[] }) scope.names } : Shared) = z4 at J4 ⊢
  have at4' : tn 0 z4.heap := by
    rw [← hz4]
    exact at4
  have cloc : (compEnvC scope cl C X.env).locals = C := rfl
  generalize compEnvC scope cl C X.env = ce at J4 g1 g2 g3 g4 cloc ⊢
  have stays : ∀ {τ : L2.St} {G : Hp} {z : Shared}, Inv (X.blk z3 G3 scope ce fp) [] τ G z → (∀ b ∈ fp, G b = none) → ∀ b ∈ fp, FpOk (X.blk z3 G3 scope ce fp) [] G b := fun J' hn b m =>
    ⟨hn b m, (J'.ok.exf b m).1, J'.ok.exfs b m, .inl m, fun x c e => (J'.ok.exf b m).2 x c e, fun p hp => absurd (show p ∈ ([] : List (Addr × Obj)) ++ [] from hp) (by simp)⟩
  have loop : codeAny (model X.prog X.w) X.A (.compLoop (.DictComp kx vx [⟨tg, iter, ifs, 0⟩] scope pos) 0 (.ref it) (.ref D) ce) (compPost (model X.prog X.w) X.A X.xe use Qf (.ref D) C) z4 := by
    refine compLoop_anyD (fun n z => Between (X.blk z3 G3 scope ce fp) fp tn W (wipe σ (own.map (·.2))) n z) (fun n z5 h5 => ?_) n0 ⟨0, G3, J4, at4', bare3, start⟩
    obtain ⟨i, G5, J5, at5, bare5, w5⟩ := h5
    rcases turn i n G5 w5 with ⟨stop, fin⟩ | ⟨go, Nx, less, step⟩
    · have over := T.done (X.blk z3 G3 scope ce fp) rfl rfl rfl calm i [] z5 _ G5 (fun _ _ => False) J5 (stays J5 bare5) at5 stop
      refine thnF over fun r z6 ⟨none_, J6⟩ => ?_
      subst none_
      have home : Inv X pins σ G5 z6 := J3.call' (ch := fp) J6.os J6.base J6.hok J6.bare fun b m => ⟨(out3 b m).1.2.2.2.1, (out3 b m).1.2.1, (out3 b m).1.2.2.2.2.1, (out3 b m).1.2.2.2.2.2⟩
      have noC : G5 C = none := by
        have f : G5 ce.locals = none := J6.free
        rwa [cloc] at f
      obtain ⟨m, ns, _⟩ := J6.loc
      have ns2 : z6.heap.Ns ce.locals m := ns
      rw [cloc] at ns2
      exact back D C z6 m G5 home fin ns2 (J3.fpOk (Nat.le_of_eq hC) noC)
    · have one := T.item (X.blk z3 G3 scope ce fp) rfl rfl rfl calm i [] z5 _ G5 (fun _ _ => False) J5 (stays J5 bare5) at5 go
      refine thnF one fun r z6 ⟨u, some_, h6⟩ => ?_
      subst some_
      refine thnF h6 fun _ z7 ⟨x, G7, J7, rx, y7, at7, bare7⟩ => ?_
      have J7p := J7.pinned (stays J7 bare7) (T.obj _ _ at7)
      refine thnF (g1.run _ z7 _ G7 x u _ J7p rx (step x G7 y7)) fun _ z8 ⟨σ8, G8, J8, clean, q8⟩ => ?_
      refine thnF (g2.run _ z8 σ8 G8 _ J8 q8) fun b z9 ⟨G9, J9, q9⟩ => ?_
      have next : ∀ {z : Shared} {G : Hp}, Inv (X.blk z3 G3 scope ce fp) ([] ++ pinsAt fp z7.heap) σ8 G z → Nx G → ∃ m, m < n ∧ Between (X.blk z3 G3 scope ce fp) fp tn W (wipe σ (own.map (·.2))) m z := fun {z G} J' nx => by
        obtain ⟨m, lt, w'⟩ := less G nx
        have held : ∀ b ∈ fp, ∀ o, z7.heap.get? b = some o → z.heap.get? b = some o ∧ G b = none := fun b m o e =>
          have k := J'.pin (b, o) (List.mem_append_right _ (List.mem_append_right _ (mem_pinsAt m e)))
          ⟨k.1, k.2.1⟩
        have long : (wipe σ (own.map (·.2))).length = σ8.length := by rw [← clean, wipe_length]
        refine ⟨m, lt, i + 1, G, (J'.unpinned (pins := [])).weak long (fun j v e => ?_), T.keep _ _ _ at7 fun b m o e => (held b m o e).1, fun b m => ?_, w'⟩
        · rw [← clean] at e
          exact (wipe_some e).1
        · obtain ⟨o, e, _⟩ := T.obj _ _ at7 b m
          exact (held b m o e).2
      cases b with
      | false =>
        simp only [Bool.false_eq_true, if_false] at q9 ⊢
        exact next J9 q9
      | true =>
        simp only [if_true] at q9 ⊢
        refine thnF (g3.run _ z9 σ8 G9 _ J9 q9) fun kv z10 ⟨y, G10, J10, ry, q10⟩ => ?_
        refine thnF (g4.run _ z10 σ8 G10 _ J10 q10) fun vv z11 ⟨v, G11, J11, rv, a, kvs, k, ey, ha, hd, small, nx⟩ => ?_
        subst ey
        cases ry
        exact put_in (X := X.blk z3 G3 scope ce fp) hu J11 hd small ha rv fun z12 J12 => next J12 nx
  exact codeAny_compStart_dict loop (T.self X.A 0 _ _ _ at4' loop)
end
end Dt
namespace Dt
open PySem PySem.Spec PyProof.Rows L2 Bx TL Dx Zx
section
variable {X : Cx}
/-- name = {k: v for ..}, the keys tuples -/
theorem ps_setDcT {i : Nat} {y : Str} {py : Pos} {kx vx tg iter : Expr} {ifs : List Expr} {scope : Scope} {own : List (Str × Nat)} {pos spos : Pos} {wi : TI} {g : TG} {tt : TT} {tk tv : TE} (hu : X.A.units < cLine) (hc : X.calm = true) (hN : X.N.Nodup) (hy : X.N[i]? = some y) (hyl : X.env.scope.names.lookup y = some .local)
    (hsw : swapsWith (.DictComp kx vx [⟨tg, iter, ifs, 0⟩] scope pos) (some (.Name y py)) spos.line X.env = pure true) (hi : PI X tg iter wi) (ok : BlkOk X.N X.env.scope scope own)
    (hg : ∀ (s : Shared) (H : Hp) (C : Addr) (cl : List (Str × Addr)) (fp : List Addr), PG (X.blk s H scope (compEnvC scope cl C X.env) fp) tg g) (ht : ∀ (s : Shared) (H : Hp) (C : Addr) (cl : List (Str × Addr)) (fp : List Addr), PTs (X.blk s H scope (compEnvC scope cl C X.env) fp) ifs tt)
    (hk : ∀ (s : Shared) (H : Hp) (C : Addr) (cl : List (Str × Addr)) (fp : List Addr), PE (X.blk s H scope (compEnvC scope cl C X.env) fp) kx tk)
    (he : ∀ (s : Shared) (H : Hp) (C : Addr) (cl : List (Str × Addr)) (fp : List Addr), PE (X.blk s H scope (compEnvC scope cl C X.env) fp) vx tv) (hs : ∀ x, foldedSetIterable iter X.env x = pure x := by intro _; rfl) :
    PS X (.Assign [.Name y py] (.DictComp kx vx [⟨tg, iter, ifs, 0⟩] scope pos) spos) (tAsg (tDcT wi g tt tk tv (own.map (·.2))) (gName i)) := by
  refine ⟨fun pins s σ H D I h => ?_⟩
  rw [exec_Assign_Name_used _ _ _ _ hsw]
  refine wpAny_bind (wpAny_standAt (wpAny_bind ?_))
  show wpAny _ X.A (do let _ ← comprehension (.DictComp kx vx [⟨tg, iter, ifs, 0⟩] scope pos) scope X.env _ newDict false (eval iter X.env) (some (assign (.Name y py) X.env))) _ _ s
  have h : tDcT wi g tt tk tv (own.map (·.2)) σ H (fun x H1 => gName i x σ H1 D.nx) := h
  refine wpAny_bind (thn (dct_core (Qf := fun _ s' => SP X pins D .next s') hu hc hN I hi ok hg ht hk he hs h fun L C s' m H' I' q hn f => ?_) fun _ s' hq => wpAny_pure (wpAny_pure hq))
  show wpAny _ _ (assign (.Name y py) X.env (.ref L)) _ _ _
  refine wpAny_assign_Name (store_ok2 (v := V.ref L) I' hN hy (.inl hyl) rfl (fun s2 I2 ⟨a, sb, ha⟩ => ?_) (.inr hyl))
  obtain ⟨f0, f1, f2, f3, f4, f5⟩ := f
  have haC : C ≠ a := by
    rcases ha with z | z
    · rw [z]; exact f1
    · exact fun e => f4 y a z e.symm
  refine ⟨m, hn.sameBut sb haC, fun h3 sb3 => ?_⟩
  exact ⟨_, H', I2.turned (t' := s2.toks) (fun b o hb e => (sb3.2 b hb).trans e) f0 f1 f3 f4 f5, q⟩
end
/-- over a walk -/
theorem dct_it {J : It} {n : Nat} {G : Hp → Prop} {Y : Nat → Hp → V → Hp → Prop} (w : Walk J n G Y) {g : TG} {tt : TT} {tk tv : TE} {vs : List Nat} {σ : L2.St} {H1 : Hp} {D : Addr} {Qd : Hp → Prop} (Pv : Nat → Hp → Prop) (h0 : Pv 0 (upd H1 D (.dT []))) (hG : ∀ i H, i ≤ n → Pv i H → G H)
    (hs : ∀ i x H H', i < n → Pv i H → Y i H x H' → g x (wipe σ vs) H' fun σ2 H2 => wipe σ2 vs = wipe σ vs ∧ tt σ2 H2 fun b H3 =>
      if b = true then tk σ2 H3 fun y H4 => tv σ2 H4 fun z H5 => ∃ a kvs k, y = .ref a ∧ H5 a = some (.tup (k.map kV)) ∧ H5 D = some (.dT kvs) ∧ kvs.length < sizeLine ∧ Pv (i + 1) (upd H5 D (.dT (putK kvs k z))) else Pv (i + 1) H3) (hd : ∀ H, Pv n H → Qd H) :
    ∃ W : Nat → Nat → Hp → Prop, (∃ m, W 0 m (upd H1 D (.dT []))) ∧ ∀ i m H, W i m H →
      (J.stop i H ∧ Qd H) ∨ (J.go i H ∧ ∃ Nx : Hp → Prop, (∀ H', Nx H' → ∃ m', m' < m ∧ W (i + 1) m' H') ∧ ∀ x H', J.yld i H x H' → g x (wipe σ vs) H' fun σ2 H2 => wipe σ2 vs = wipe σ vs ∧ tt σ2 H2 fun b H3 =>
        if b = true then tk σ2 H3 fun y H4 => tv σ2 H4 fun z H5 => ∃ a kvs k, y = .ref a ∧ H5 a = some (.tup (k.map kV)) ∧ H5 D = some (.dT kvs) ∧ kvs.length < sizeLine ∧ Nx (upd H5 D (.dT (putK kvs k z))) else Nx H3) :=
  walk_any (B := fun (Nx : Hp → Prop) x H' => g x (wipe σ vs) H' fun σ2 H2 => wipe σ2 vs = wipe σ vs ∧ tt σ2 H2 fun b H3 =>
        if b = true then tk σ2 H3 fun y H4 => tv σ2 H4 fun z H5 => ∃ a kvs k, y = .ref a ∧ H5 a = some (.tup (k.map kV)) ∧ H5 D = some (.dT kvs) ∧ kvs.length < sizeLine ∧ Nx (upd H5 D (.dT (putK kvs k z))) else Nx H3) w Pv h0 hG hs hd
end Dt
namespace Dt
open PySem PySem.Spec PyProof.Rows L2
/-- e.f within a block: the written part is named -/
theorem pe_fldK {X : Cx} {K : PySem.W.Frag} {e : Expr} {f : Str} {pos : Pos} {ta : TE} (h : X.K = K) (he : PE X e ta) (hb : attributeBase e f X.env (eval e X.env) = eval e X.env) : PE X (.Attribute e f pos) (tFld K ta f) := by
  subst h
  exact pe_fld he hb
end Dt
/-! a comprehension within another one's block -/
namespace Nx
open PySem PySem.Spec PyProof.Rows L2
theorem rel_eq {scope : Scope} {env : Env} {sc : Scope} (h : env.scope = sc) : relabel scope env = relS scope sc := by
  subst h
  rfl
theorem blkOk_nest {N : List Str} {sc scope1 scope : Scope} {cl : List (Str × Addr)} {C : Addr} {env : Env} {own : List (Str × Nat)} (he : env.scope = sc) (h : blkC N (relS scope1 sc) scope own = true) : BlkOk N (compEnvC scope1 cl C env).scope scope own := by
  have e : (compEnvC scope1 cl C env).scope = relS scope1 sc := rel_eq he
  rw [e]
  exact blkOk_by h
/-- d.setdefault(t, v), t a tuple of ints and texts -/
def rSetdT : V → List V → Hp → VK → Prop := fun x vs H Q => ∃ (a b : Addr) (kvs : List (List Key × V)) (k : List Key) (v : V), x = .ref a ∧ vs = [.ref b, v] ∧ H a = some (.dT kvs) ∧ H b = some (.tup (k.map kV)) ∧ kvs.length < sizeLine ∧
  (∀ u, valV kvs k = some u → Q u H) ∧ (valV kvs k = none → Q v (upd H a (.dT (putK kvs k v))))
theorem mt_setdT {X : Cx} (hu : X.A.units + 1 < cLine) : MtR X "dict.setdefault" rSetdT := by
  intro pins s σ H x xs v us Q I rx rs q
  obtain ⟨a, b, kvs, k, y, rfl, rfl, ea, eb, hl, w1, w2⟩ := q
  cases rx
  cases rs with
  | cons r1 rs =>
    cases rs with
    | cons r2 rs =>
      cases rs
      cases r1
      obtain ⟨z, hd, xs0, rel, dd⟩ := dt_of I.hok ea
      have hz : xs0.length ≤ sizeLine := by rw [← Paired.length rel]; exact z
      have hl2 : (putK kvs k y).length ≤ sizeLine := by have := length_putK kvs k y; omega
      refine call_setdefault_heap (hsz := hz) (tupleKind_room_in1 hu) (key_of I.hok eb) hd dd (fun p hp => ?_) fun hn h' dd' hs => ?_
      · have rr := rel.val k
        rw [hp] at rr
        cases e : valV kvs k with
        | none =>
          rw [e] at rr
          have := rr.isSome_eq
          cases this
        | some u =>
          rw [e] at rr
          exact ⟨u, H, I.tok _, rr, w1 u e⟩
      · have rr := rel.val k
        rw [hn] at rr
        have e : valV kvs k = none := by
          cases e : valV kvs k with
          | none => rfl
          | some u =>
            rw [e] at rr
            have := rr.isSome_eq
            cases this
        obtain ⟨q, es, ep, hq, h2, h3, h4, _, h5⟩ := dd'
        refine ⟨y, upd H a (.dT (putK kvs k y)), d_write I (by rw [ea]; exact True.intro) hs ⟨q, hq⟩ ⟨hl2, hd, _, (rel.put k eb r2).keeps fun c ys ec => ?_, q, es, ep, hq, h2, h3, h4, h5⟩, r2, w2 e⟩
        rw [upd_ne (ne_of ec ea (fun z => nomatch z))]
        exact ec
end Nx
/-! super().m(..) in a method of an own class, m a def of the class above: as the value of a `return .. and ..`, or in an `if not ..`. -/
namespace SupM
open PySem PySem.Spec PyProof.Rows L2 NdefX Sup Ow
section
variable {X : Cx} {pins : List (Addr × Obj)} {σ : List (Option V)} {H : Hp} {s : Shared} {self m : Str} {D a C dx g : Addr} {fs : List (Str × V)} {body : List Stmt} {p0 p1 p2 pos pos' : Pos} {e : Expr} {es : List Expr} {ta : TA} {pl : Sem Bool} {k : Nat} {sp : Sp} {Q : VK}
/-- the class above has the def g under the name m -/
structure SupA (K : PySem.W.Frag) (C D : Addr) (m : Str) (g : Addr) : Prop where
  cls : ∃ cd, PySem.W.clsIn K D = some cd
  sub : PySem.W.mroIn K C (.ref D) = some true
  sup : PySem.W.ks_superIn K C D m = some (some (.ref g))
  ty : PySem.W.typeIn K (.ref g) = some (.type "function")
  fn : PySem.W.fnIn K g = true
  nc : (m == ("__class__" : Str)) = false
theorem sup_eval (I : Inv X pins σ H s) (S : SupF X.prog X.K X.mg X.env self D) (T : SupA X.K C D m g) (F : FnR X.prog X.w X.K X.mg X.base CX0 k g sp) (hr : Room k X.A) (hN : X.N[0]? = some self) (h0 : σ[0]? = some (some (.ref a))) (ea : H a = some (.ins C dx fs)) (ha : PA X (e :: es) ta)
    (h : ta σ H fun vs H2 => sp (.ref a :: vs) H2 Q E0)
    (hev : eval (.Call (.Attribute (.Call (.Name "super" p0) [] [] p1) m p2) (e :: es) [] pos) X.env = (do
      let ov ← attributeBase (.Call (.Name "super" p0) [] [] p1) m X.env (eval (.Call (.Name "super" p0) [] [] p1) X.env)
      standAt p2.atName
      let (f, first) ← holding [ov] (getMethod ov m pl)
      callWith pos f first (backTo pos (starEach (e :: es) X.env)) []) := by rfl)
    (he : starEach (e :: es) X.env = (false, eval e X.env) :: starEach es X.env := by rfl) (hpl : (backTo pos (starEach es X.env)).any (·.1) = false := by rfl) :
    _root_.PySem.wpAt (model X.prog X.w) X.A (.func body X.env) (eval (.Call (.Attribute (.Call (.Name "super" p0) [] [] p1) m p2) (e :: es) [] pos) X.env) (EP X pins σ Q) X.xe s := by
  refine ks_wpAt_MethodCall ?_ hev
  obtain ⟨f, oc, od, fd, osl, ar, hfu, lf, hp, har⟩ := S.fn
  obtain ⟨cda, ccl, cdd, vs, ccs, file, tf, hco, lc, hvs, hfile⟩ := S.co
  obtain ⟨cc, cl, cld, csl, hcl, lcc⟩ := S.ce
  obtain ⟨mm, v, hn, hv, rv⟩ := self_at I hN h0 S.ka
  obtain rfl : v = Value.ref a := rv
  obtain ⟨oi, inst⟩ := inst_of I ea
  obtain ⟨cdD, hD⟩ := T.cls
  have XK := I.kIn
  obtain ⟨oD, hD1, hD2⟩ : ∃ oD, s.heap.get? D = some oD ∧ oD.data = .cls cdD := by
    unfold PySem.W.clsIn at hD
    split at hD
    · rename_i c d cd' sl ho
      cases hD
      exact ⟨_, XK _ _ ho, rfl⟩
    · cases hD
  refine ks_wpAt_super_base S.ks S.kc T.nc hfu (XK _ _ lf) rfl hp hco (XK _ _ lc) rfl hvs hfile S.top ?_
  refine ld_super I S ⟨rfl, ?_⟩
  refine wpAny_loadName_free I.ok.kind S.kc hcl ⟨_, XK _ _ lcc, rfl⟩ ?_
  refine wpAny_loadName_local I.ok.kind (har ▸ S.ka) hn (har ▸ hv) ?_
  refine ks_wpAny_isType_cls hD1 hD2 ⟨rfl, ?_⟩
  obtain ⟨hp0, gg, d, t, os⟩ := s
  refine ks_wpAny_call_super hD1 hD2 inst.at_ rfl (fun c e => by cases e) (PySem.W.looks_mroIn XK T.sub) fun h' eso k2 => ?_
  have I2 : Inv X pins σ H ⟨h', gg, d, t, os⟩ := I.kept (t' := t) k2
  have XK2 := I2.kIn
  have sup := T.sup
  unfold PySem.W.ks_superIn at sup
  cases hc : PySem.W.clsIn X.K C with
  | none =>
    rw [hc] at sup
    cases sup
  | some cd =>
    rw [hc] at sup
    obtain ⟨oi2, inst2⟩ := inst_of I2 ea
    obtain ⟨of, hof, hofc⟩ : ∃ of, h'.get? g = some of ∧ of.cls = .type "function" := by
      have ht' : (X.K.lookup g).map (·.cls) = some (.type "function") := T.ty
      cases z : X.K.lookup g with
      | none => rw [z] at ht'; cases ht'
      | some of => rw [z] at ht'; exact ⟨of, XK2 _ _ z, Option.some.inj ht'⟩
    refine ks_wpAny_getMethod_super eso (PySem.W.looks_opaque XK2 S.any) (l₀ := cd.mro) ?_ rfl XK2 sup hof hofc (PySem.W.ks_ne XK2 inst2 hc) T.nc ?_
    · exact fun A Q E s k q => wpAny_bind ((PySem.W.looks_clsIn XK2 hc) A _ E s k (wpAny_pure q))
    · have I3 := ClX.met_new (g := g) (C := a) I2
      refine ClX.callwith_cm I3 (ClX.base_none I2 (Nat.le_refl _)) T.fn (thn (ha.run pos _ _ σ H _ I3 h) fun us s3 ⟨vs, H2, I4, rv, q2⟩ => ⟨⟨ClX.pin_at I4, I4.kIn⟩, ?_⟩) he hpl
      exact ClX.run_cm F hr L2.pass0 I4 rv q2
end
/-! ### expressions, tests, statements that know the body they stand in -/
section
variable {M : Model} {A : Around} {c : Code} {E : Value → Shared → Prop} {s : Shared} {env : Env}
theorem at_and {e₁ e₂ : Expr} {rest : List Expr} {pos : Pos} {Q : Value → Shared → Prop}
    (h : _root_.PySem.wpAt M A c (eval e₁ env) (fun v s₁ => wpAny M A (truthy v) (fun c s₂ => if c then wpAny M A (eval (.BoolOp .And (e₂ :: rest) pos) env) Q E s₂ else Q v s₂) E s₁) E s) :
    _root_.PySem.wpAt M A c (eval (.BoolOp .And (e₁ :: e₂ :: rest) pos) env) Q E s := by
  show _root_.PySem.wpAt M A c (do
    let v ← eval e₁ env
    standAt pos
    let c ← holding [v] (truthy v)
    match BoolOp.And, c with
    | .And, false | .Or, true => pure v
    | _, _ => boolOp pos .And (eval e₂ env :: evalEach rest env)) Q E s
  refine _root_.PySem.wpAt_bind (ks_wpAt_mono h (fun v s₁ h₁ => wpAt_of_wpAny (wpAny_bind (wpAny_standAt (wpAny_bind (wpAny_holding (wpAny_mono h₁ (fun c s₂ h₂ => ?_) fun _ _ x => x)))))) fun _ _ x => x)
  cases c with
  | false => exact wpAny_pure h₂
  | true => exact h₂
theorem at_not {x : Expr} {pos : Pos} {whole : Sem Value} {Q : Bool → Shared → Prop} (h : _root_.PySem.wpAt M A c (isTrue x env (eval x env)) (fun c s' => Q (!c) s') E s) :
    _root_.PySem.wpAt M A c (isTrue (.UnaryOp .Not x pos) env whole) Q E s := by
  show _root_.PySem.wpAt M A c (do return !(← isTrue x env (eval x env))) Q E s
  exact _root_.PySem.wpAt_bind (ks_wpAt_mono h (fun c s' h' => wpAt_of_wpAny (wpAny_pure h')) fun _ _ x => x)
theorem at_or {x : Expr} {rest : List Expr} {pos : Pos} {whole : Sem Value} {Q : Bool → Shared → Prop}
    (h : _root_.PySem.wpAt M A c (isTrue x env (eval x env)) (fun c s' => if c then Q true s' else wpAny M A (isTrue (.BoolOp .Or rest pos) env whole) Q E s') E s) :
    _root_.PySem.wpAt M A c (isTrue (.BoolOp .Or (x :: rest) pos) env whole) Q E s := by
  show _root_.PySem.wpAt M A c (do
    match BoolOp.Or, ← isTrue x env (eval x env) with
    | .And, false => pure false
    | .Or, true => pure true
    | _, _ => allTrue .Or rest env) Q E s
  refine _root_.PySem.wpAt_bind (ks_wpAt_mono h (fun c s' h' => wpAt_of_wpAny ?_) fun _ _ x => x)
  cases c with
  | false => exact h'
  | true => exact wpAny_pure h'
end
section
variable {X : Cx} {body : List Stmt} {e a b : Expr} {rest : List Expr} {st : Stmt} {sts : List Stmt} {pos : Pos} {te ta tb : TE} {tA tB' : TT} {t u : TS}
structure PEa (X : Cx) (body : List Stmt) (e : Expr) (te : TE) : Prop where
  run : ∀ pins s σ H Q, Inv X pins σ H s → te σ H Q → _root_.PySem.wpAt (model X.prog X.w) X.A (.func body X.env) (eval e X.env) (EP X pins σ Q) X.xe s
structure PTa (X : Cx) (body : List Stmt) (e : Expr) (t : TT) : Prop where
  run : ∀ pins s σ H Q, Inv X pins σ H s → t σ H Q → _root_.PySem.wpAt (model X.prog X.w) X.A (.func body X.env) (isTrue e X.env (eval e X.env)) (TP X pins σ Q) X.xe s
structure PSa (X : Cx) (body : List Stmt) (st : Stmt) (t : TS) : Prop where
  run : ∀ pins s σ H D, Inv X pins σ H s → t D σ H → _root_.PySem.wpAt (model X.prog X.w) X.A (.func body X.env) (exec st X.env) (SP X pins D) X.xe s
structure PSsa (X : Cx) (body : List Stmt) (sts : List Stmt) (t : TS) : Prop where
  run : ∀ pins s σ H D, Inv X pins σ H s → t D σ H → _root_.PySem.wpAt (model X.prog X.w) X.A (.func body X.env) (execs sts X.env) (SP X pins D) X.xe s
/-- super().m(..), self the first name -/
def tSupM (C : Addr) (sp : Sp) (ta : TA) : TE := fun σ H Q => ∃ a dx fs, σ[0]? = some (some (.ref a)) ∧ H a = some (.ins C dx fs) ∧ ta σ H fun vs H2 => sp (.ref a :: vs) H2 Q E0
theorem pea_sup {self m : Str} {D C g : Addr} {k : Nat} {sp : Sp} {p0 p1 p2 : Pos} {es : List Expr} {ta : TA} {pl : Sem Bool} (S : SupF X.prog X.K X.mg X.env self D) (T : SupA X.K C D m g) (F : FnR X.prog X.w X.K X.mg X.base CX0 k g sp) (hr : Room k X.A) (hN : X.N[0]? = some self) (ha : PA X (e :: es) ta)
    (hev : eval (.Call (.Attribute (.Call (.Name "super" p0) [] [] p1) m p2) (e :: es) [] pos) X.env = (do
      let ov ← attributeBase (.Call (.Name "super" p0) [] [] p1) m X.env (eval (.Call (.Name "super" p0) [] [] p1) X.env)
      standAt p2.atName
      let (f, first) ← holding [ov] (getMethod ov m pl)
      callWith pos f first (backTo pos (starEach (e :: es) X.env)) []) := by rfl)
    (he : starEach (e :: es) X.env = (false, eval e X.env) :: starEach es X.env := by rfl) (hpl : (backTo pos (starEach es X.env)).any (·.1) = false := by rfl) :
    PEa X body (.Call (.Attribute (.Call (.Name "super" p0) [] [] p1) m p2) (e :: es) [] pos) (tSupM C sp ta) :=
  ⟨fun _ _ _ _ _ I ⟨_, _, _, h0, ea, h⟩ => sup_eval I S T F hr hN h0 ea ha h hev he hpl⟩
theorem pea_and (ha : PEa X body a ta) (hb : PE X (.BoolOp .And (b :: rest) pos) tb) : PEa X body (.BoolOp .And (a :: b :: rest) pos) (tAndV ta tb) := by
  refine ⟨fun pins s σ H Q I h => ?_⟩
  refine at_and (ks_wpAt_mono (ha.run pins s σ H _ I h) (fun v s1 ⟨x, H1, I1, r1, q1⟩ => ?_) fun _ _ z => z)
  obtain ⟨c, rfl, q1⟩ := q1
  cases r1
  refine wpAny_truthy_bool ?_
  cases c with
  | true => exact hb.run pins s1 σ H1 Q I1 q1
  | false => exact ⟨.bl false, H1, I1, rfl, q1⟩
theorem pta_val (h : PEa X body e te) (he : ∀ whole, isTrue e X.env whole = (do let v ← whole; standAt e.pos; holding [v] (truthy v)) := by intro _; rfl) : PTa X body e (tB te) := by
  refine ⟨fun pins s σ H Q I hw => ?_⟩
  rw [he]
  refine _root_.PySem.wpAt_bind (ks_wpAt_mono (h.run pins s σ H _ I hw) (fun v s1 ⟨x, H1, I1, r1, q1⟩ => wpAt_of_wpAny (wpAny_bind (wpAny_standAt (wpAny_holding ?_)))) fun _ _ z => z)
  obtain ⟨d, rfl, q⟩ := q1
  cases r1
  exact wpAny_truthy_bool ⟨H1, I1, q⟩
theorem pta_not (h : PTa X body a tA) : PTa X body (.UnaryOp .Not a pos) (tNot tA) := ⟨fun pins s σ H Q I hw => at_not (h.run pins s σ H (fun c H1 => Q (!c) H1) I hw)⟩
theorem pta_or (ha : PTa X body a tA) (hb : PW X (.BoolOp .Or (b :: rest) pos) tB') : PTa X body (.BoolOp .Or (a :: b :: rest) pos) (tOr tA tB') := by
  refine ⟨fun pins s σ H Q I h => ?_⟩
  refine at_or (ks_wpAt_mono (ha.run pins s σ H _ I h) (fun c s1 ⟨H1, I1, q1⟩ => ?_) fun _ _ z => z)
  cases c with
  | true => exact ⟨H1, I1, q1⟩
  | false => exact hb.run _ pins s1 σ H1 Q I1 q1
theorem psa_ret (h : PEa X body e te) : PSa X body (.Return (some e) pos) (tRet te) :=
  ⟨fun pins s σ H D I w => ks_wpAt_Return_some (ks_wpAt_mono (h.run pins s σ H _ I w) (fun v s1 ⟨x, H1, I1, r1, q1⟩ => ⟨x, σ, H1, I1, r1, q1⟩) fun _ _ z => z)⟩
theorem psa_if {c : Expr} {x y : List Stmt} {tc : TT} (hc : PTa X body c tc) (ha : PSs X x t) (hb : PSs X y u) : PSa X body (.If c x y pos) (tIfS tc t u) := by
  refine ⟨fun pins s σ H D I h => ?_⟩
  refine ks_wpAt_If (ks_wpAt_mono (hc.run pins s σ H _ I h) (fun d s1 ⟨H1, I1, q1⟩ => ?_) fun _ _ z => z)
  cases d with
  | true => exact wpAt_of_wpAny (ha.run pins s1 σ H1 D I1 q1)
  | false => exact wpAt_of_wpAny (hb.run pins s1 σ H1 D I1 q1)
theorem PSa.of (h : PS X st t) : PSa X body st t := ⟨fun pins s σ H D I w => wpAt_of_wpAny (h.run pins s σ H D I w)⟩
theorem PSsa.of (h : PSs X sts t) : PSsa X body sts t := ⟨fun pins s σ H D I w => wpAt_of_wpAny (h.run pins s σ H D I w)⟩
theorem pssa_cons (h : PSa X body st t) (hs : PSsa X body sts u) : PSsa X body (st :: sts) (tSeq t u) := by
  refine ⟨fun pins s σ H D I w => ?_⟩
  refine ks_wpAt_execs_cons (ks_wpAt_mono (h.run pins s σ H _ I w) (fun fl s1 hf => ?_) fun _ _ z => z)
  cases fl with
  | next =>
    obtain ⟨σ', H', J, q⟩ := hf
    exact hs.run pins s1 σ' H' D J q
  | brk => exact hf
  | cont => exact hf
  | ret u => exact hf
theorem pssa_one (h : PSa X body st t) : PSsa X body [st] t := by
  refine ⟨fun pins s σ H D I w => ?_⟩
  refine ks_wpAt_execs_cons (ks_wpAt_mono (h.run pins s σ H _ I w) (fun fl s1 hf => ?_) fun _ _ z => z)
  cases fl with
  | next => exact wpAt_of_wpAny (wpAny_execs_nil hf)
  | brk => exact hf
  | cont => exact hf
  | ret u => exact hf
end
section
variable {CX : CXT} {P : Program} {w : World} {K : PySem.W.Frag} {mg : Str → Option Value} {base : Heap} {k : Nat} {F : NF} {f cc D : Addr} {kV doc pm ct oc : Value} {an od : Option Addr} {osl : Array (Option Value)} {N ps : List Str} {sp : Sp}
/-- a def with the class's cell, whose body says super() -/
theorem fn_at (lk : K.lookup f = some ⟨oc, od, .func (PySem.W.fnX F.name F.qual F.params F.body F.scope F.cl .none kV doc pm an (.ref F.c) ct), osl⟩) (hcd : PySem.W.codeIn K (.ref F.c) F.qual = true) (hcl : F.cl = [(("__class__" : Str), cc)])
    (hcc : ∃ cl cld csl, K.lookup cc = some ⟨cl, cld, .cell (some (.ref D)), csl⟩) (S : NScope N ps ["__class__"] F.scope)
    (len : ∀ vs H Q E, sp vs H Q E → vs.length = ps.length)
    (hbody : ∀ (A : Around) (outer : List Env) (s : Shared) (H : Hp) (vs : List V) (Q : VK) (E : XK), Room k (A.deeper (envF F f s.heap.objs.size)) → sp vs H Q E →
      ∃ t : TS, PSsa (ncx CX P w K mg base N F f A outer s H E) F.body F.body t ∧ t { nx := fun _ H' => Q .non H', rt := Q } (startF N vs [none]) H) :
    FnOk P w K mg base CX (k + 1) f (PySem.W.fnX F.name F.qual F.params F.body F.scope F.cl .none kV doc pm an (.ref F.c) ct) ps sp := by
  refine ⟨len, fun A outer s H args us vs Q E hr e0 hb r hsp => ?_⟩
  have hl := len _ _ _ _ hsp
  have KX : K.In s.heap := e0.mod.kin.keeps fun b o e => (e0.bs b o e).1
  have lim : s.heap.NoLimit := e0.mod.nolimit.keeps fun b o e => (e0.bs b o e).1
  obtain ⟨cl, cld, csl, hcc⟩ := hcc
  have C : CellsAt F.cl ["__class__"] [none] s.heap H := by
    have one : ∀ {y : Str} {c : Addr}, F.cl.lookup y = some c → y = "__class__" ∧ c = cc := fun {y c} e => by
      rw [hcl] at e
      by_cases h : y = ("__class__" : Str)
      · subst h
        have e2 : some cc = some c := e
        exact ⟨rfl, (Option.some.inj e2).symm⟩
      · have h2 : (y == ("__class__" : Str)) = false := by simpa using h
        rw [List.lookup_cons, h2] at e
        cases e
    refine ⟨rfl, fun y c e => ?_, fun x y c e1 e2 => (one e1).1.trans (one e2).1.symm, fun i y hi => ?_⟩
    · rw [(one e).2]
      exact ⟨(e0.bs _ _ (e0.mod.kin _ _ hcc)).2, _, ⟨_, KX _ _ hcc, rfl⟩⟩
    · cases i with
      | zero =>
        have e : ("__class__" : Str) = y := Option.some.inj hi
        refine ⟨cc, by rw [hcl, ← e]; rfl, fun v hv => ?_⟩
        cases hv
      | succ i => cases hi
  refine ks_codeAny_call_defAt hr.depth (KX _ _ lk) rfl lim (PySem.W.codeRec_of KX hcd) rfl hb S.nocell (fun ⟨n, v⟩ hy => S.par n (List.of_mem_zip hy).1) (fun h₁ hns kp => ?_) S.co S.gen S.kind
  show _root_.PySem.wpAt (model P w) (A.deeper (envF F f s.heap.objs.size)) (.func F.body (envF F f s.heap.objs.size)) (execs F.body (envF F f s.heap.objs.size)) _ _ _
  obtain ⟨t, ps', hq⟩ := hbody A outer s H vs Q E (hr.deeper _) hsp
  have I : Inv (ncx CX P w K mg base N F f A outer s H E) [] (startF N vs [none]) H { s with heap := h₁, toks := s.toks + (ps.zip us).length } := inv_startN S hr.hd e0 hl r C hns kp
  have fin : ∀ {s' : Shared} {σ' : L2.St} {H' : Hp} {v : V} {u : Value}, Inv (ncx CX P w K mg base N F f A outer s H E) [] σ' H' s' → L2.RelV v u → Q v H' → CE outer P w H s Q u s' :=
    fun {s' σ' H' v u} J rv q => ⟨v, H', J.os, J.bare, J.base, J.hok, rv, q⟩
  refine ks_wpAt_mono (ps'.run [] _ (startF N vs [none]) H _ I hq) (fun fl s' hs => ?_) fun e s' hs => hs
  cases fl with
  | ret u =>
    obtain ⟨v, σ', H', J, rv, q⟩ := hs
    exact fin J rv q
  | next =>
    obtain ⟨σ', H', J, q⟩ := hs
    exact fin (v := V.non) (u := Value.none) J rfl q
  | brk =>
    obtain ⟨_, _, _, q⟩ := hs
    exact False.elim q
  | cont =>
    obtain ⟨_, _, _, q⟩ := hs
    exact False.elim q
end
end SupM
/-! sorted(xs), xs a list of data (alike tuples, ..), any length: the stable sort by the order of data. -/
namespace So
open PySem PySem.Spec PyProof.Rows L2 Bx TL Dx PySem.W
section
variable {X : Cx} {pins : List (Addr × Obj)} {σ : L2.St} {H : Hp} {s : Shared}
theorem each_of (I : Inv X pins σ H s) : ∀ {vs : List V} {us : List Value} {ds : List PyData}, DpAll X.K H vs ds → Vals vs us → EachIs (fun u d => (∃ v, Dp X.K H v d ∧ L2.RelV v u) ∧ ∃ as, Reads s.heap u d as) us ds
  | [], [], [], _, _ => .nil
  | v :: vs, u :: us, d :: ds, h, r => by
    cases h with
    | cons h1 h2 =>
      cases r with
      | cons r1 r2 => exact .cons ⟨⟨v, h1, r1⟩, Dp.reads I d v u h1 r1⟩ (each_of I h2 r2)
  | [], _ :: _, _, _, r => by cases r
  | _ :: _, [], _, _, r => by cases r
  | [], [], _ :: _, h, _ => by cases h
  | _ :: _, _ :: _, [], h, _ => by cases h
theorem each_back {K : Frag} : ∀ {us : List Value} {ds : List PyData}, EachIs (fun u d => ∃ v, Dp K H v d ∧ L2.RelV v u) us ds → ∃ vs, Vals vs us ∧ DpAll K H vs ds
  | _, _, .nil => ⟨[], .nil, .nil⟩
  | _, _, .cons ⟨v, h, r⟩ t => by
    obtain ⟨vs, r2, h2⟩ := each_back t
    exact ⟨v :: vs, .cons r r2, .cons h h2⟩
def dle : PyData → PyData → Bool := dataLe false id
def rSortD (K : Frag) : List V → Hp → VK → Prop := fun xs H Q => ∃ (a : Addr) (vs : List V) (ds : List PyData), xs = [V.ref a] ∧ SqL K H a vs ∧ DpAll K H vs ds ∧ AllAlike ds ∧ Sortable ds ∧ ds.length ≤ sizeLine ∧ (∀ d ∈ ds, d.depth ≤ 60) ∧
  ∀ (ys : List V) (p : Addr), H p = none → DpAll K H ys (ds.mergeSort dle) → Q (.ref p) (upd H p (.lst ys))
theorem cr_sortD (hu : X.A.units + 65 < cLine) : CallR X (.builtin "sorted") (rSortD X.K) := by
  intro pins s σ H xs us Q I r h
  obtain ⟨a, vs, ds, rfl, hs, hd, hal, hso, hz, hdp, q⟩ := h
  cases r with
  | cons r1 r2 =>
    cases r2
    cases r1
    obtain ⟨its, rv, hl, _⟩ := I.list hs
    have ea := each_of I hd rv
    refine sorted_data (bs := ds) (enc := id) (R := fun u d => ∃ v, Dp X.K H v d ∧ L2.RelV v u) hl.isList (ea.mono fun _ _ z => z.1) (ea.mono fun _ _ z => z.2) (by rw [List.map_id]; exact hal) (by rw [List.map_id]; exact hso) hz (fun d hd => ?_) fun out hlen eo => ?_
    · have := hdp d hd
      show X.A.units + 2 + d.depth < cLine
      omega
    · obtain ⟨ys, ry, dy⟩ := each_back eo
      obtain ⟨ep, he'⟩ := PyProof.Rows.sortedAll_at s.heap its out.toArray
      have hyl : ys.length = ds.length := by rw [ry.length, hlen]
      exact ⟨.ref _, upd H (s.heap.objs.size + 1) (.lst ys), I.laid (t' := s.toks) (fun _ _ => PyProof.Rows.sortedAll_old) (Nat.le_succ _) ⟨by rw [hyl]; exact hz, out, ep, ry, by simpa using he'⟩, rfl, q ys _ (I.hok.fresh (Nat.le_succ _)) dy⟩
end
end So
/-! Sets of nested tuples of ints and texts, fewer than 64 members: set(xs), sorted(..), `in`. -/
namespace Sd
open PySem PySem.Spec PyProof.Rows L2
abbrev NK := PySem.NestedKey
/-- the tuple at a is the key k -/
def Is8 (h : PySem.Heap) (k : NK) (a : Addr) : Prop := NestedIs h k (.ref a) ∧ k.depth ≤ 8
def ClsAt (P : Program) (w : World) (n : Nat) (s : Shared) (v : Value) : Prop := ∀ (A : Around) (E : Value → Shared → Prop) (Q : Bool → Shared → Prop), Q false s → wpAny (model P w) A (ofAClassStatement n v) Q E s
def HbvAt (P : Program) (w : World) (n : Nat) (s : Shared) (v : Value) : Prop := ∀ (A : Around) (E : Value → Shared → Prop) (Q : Bool → Shared → Prop), (∀ b, Q b s) → wpAny (model P w) A (hashByValue n v) Q E s
section
variable {P : Program} {w : World} {A : Around} {E : Value → Shared → Prop} {s : Shared}
theorem cls_pure {n : Nat} {v : Value} (e : ofAClassStatement n v = pure false) : ClsAt P w n s v := fun A E Q q => by
  rw [e]
  exact wpAny_pure q
theorem hbv_pure {n : Nat} {v : Value} {b : Bool} (e : hashByValue n v = pure b) : HbvAt P w n s v := fun A E Q q => by
  rw [e]
  exact wpAny_pure (q b)
theorem cls_tuple {n m : Nat} {a : Addr} {o : Obj} {vs : Array Value} (ho : s.heap.get? a = some o) (hc : o.cls = .type "tuple") (hd : o.data = .seq vs m) (all : ∀ v ∈ vs.toList, ClsAt P w n s v) : ClsAt P w (n + 1) s (.ref a) := fun A E Q q => by
  unfold ofAClassStatement
  refine wpAny_bind (wpAny_typeOf (show s.TypeIs (.ref a) "tuple" from ⟨o, ho, hc⟩) ?_)
  simp only [show (("tuple" : String) == "tuple") = true by decide, if_true, pure_bind, Bool.not_true, Bool.false_eq_true, if_false]
  refine wpAny_bind (wpAny_seqItems ho hd (wpAny_bind ?_))
  rw [← Array.forIn_toList]
  refine wpAny_forIn_list _ (fun left r s' => s' = s ∧ r.1 = none ∧ ∀ v ∈ left, ClsAt P w n s v) _ ?_ ?_ _ _ ⟨rfl, rfl, all⟩
  · rintro v left r s' ⟨rfl, e, rest⟩
    refine wpAny_bind (rest v (List.mem_cons_self ..) _ _ _ ?_)
    simp only [Bool.false_eq_true, if_false]
    exact wpAny_pure ⟨rfl, rfl, fun u hu => rest u (List.mem_cons_of_mem _ hu)⟩
  · rintro ⟨r, x⟩ s' ⟨rfl, e, _⟩
    simp only at e
    subst e
    exact wpAny_pure q
theorem hbv_tuple {n m : Nat} {a : Addr} {o : Obj} {vs : Array Value} (ho : s.heap.get? a = some o) (hc : o.cls = .type "tuple") (hd : o.data = .seq vs m) (all : ∀ v ∈ vs.toList, HbvAt P w n s v) : HbvAt P w (n + 1) s (.ref a) := fun A E Q q => by
  unfold hashByValue
  refine wpAny_bind (wpAny_specialOf (show s.TypeIs (.ref a) "tuple" from ⟨o, ho, hc⟩) F.slot_tuple_hash.lookup ?_)
  show wpAny _ _ (seqItems? (.ref a) >>= _) _ _ s
  refine wpAny_bind (wpAny_seqItems ho hd (wpAny_bind ?_))
  show wpAny _ _ (forIn vs _ _) _ _ s
  rw [← Array.forIn_toList]
  refine wpAny_forIn_list _ (fun left r s' => s' = s ∧ r.1 = none ∧ ∀ v ∈ left, HbvAt P w n s v) _ ?_ ?_ _ _ ⟨rfl, rfl, all⟩
  · rintro v left r s' ⟨rfl, e, rest⟩
    refine wpAny_bind (rest v (List.mem_cons_self ..) _ _ _ fun b => ?_)
    cases b with
    | true =>
      simp only [Bool.not_true, Bool.false_eq_true, if_false]
      exact wpAny_pure ⟨rfl, rfl, fun u hu => rest u (List.mem_cons_of_mem _ hu)⟩
    | false =>
      simp only [Bool.not_false, if_true]
      exact wpAny_pure (wpAny_pure (q false))
  · rintro ⟨r, x⟩ s' ⟨rfl, e, _⟩
    simp only at e
    subst e
    exact wpAny_pure (q true)
mutual
theorem cls_key : ∀ (k : NK) (v : Value) (n : Nat), NestedIs s.heap k v → k.depth ≤ n → ClsAt P w n s v
  | .none, _, n, x, _ => by
    cases x
    exact cls_pure (by cases n <;> rfl)
  | .num i, _, n, x, _ => by
    cases x <;> exact cls_pure (by cases n <;> rfl)
  | .text y, _, n, x, _ => by
    cases x
    exact cls_pure (by cases n <;> rfl)
  | .tup ks, _, n, x, hn => by
    cases x with
    | tup hg hc hd hk =>
      simp only [NestedKey.depth] at hn
      cases n with
      | zero => omega
      | succ n => exact cls_tuple hg hc hd (cls_keys ks _ n hk (by omega))
theorem cls_keys : ∀ (ks : List NK) (vs : List Value) (n : Nat), NestedAll s.heap ks vs → NestedKey.depthAll ks ≤ n → ∀ v ∈ vs, ClsAt P w n s v
  | [], _, n, x, _, v, hv => by
    cases x
    cases hv
  | k :: ks, _, n, x, hn, v, hv => by
    cases x with
    | cons x1 x2 =>
      simp only [NestedKey.depthAll] at hn
      rcases List.mem_cons.mp hv with e | hv
      · rw [e]
        exact cls_key k _ n x1 (by omega)
      · exact cls_keys ks _ n x2 (by omega) v hv
end
mutual
theorem hbv_key : ∀ (k : NK) (v : Value) (n : Nat), NestedIs s.heap k v → k.depth ≤ n → HbvAt P w n s v
  | .none, _, n, x, _ => by
    cases x
    exact hbv_pure (b := true) (by cases n <;> rfl)
  | .num i, _, n, x, _ => by
    cases x <;> exact hbv_pure (b := true) (by cases n <;> rfl)
  | .text y, _, n, x, _ => by
    cases x
    exact hbv_pure (b := false) (by cases n <;> rfl)
  | .tup ks, _, n, x, hn => by
    cases x with
    | tup hg hc hd hk =>
      simp only [NestedKey.depth] at hn
      cases n with
      | zero => omega
      | succ n => exact hbv_tuple hg hc hd (hbv_keys ks _ n hk (by omega))
theorem hbv_keys : ∀ (ks : List NK) (vs : List Value) (n : Nat), NestedAll s.heap ks vs → NestedKey.depthAll ks ≤ n → ∀ v ∈ vs, HbvAt P w n s v
  | [], _, n, x, _, v, hv => by
    cases x
    cases hv
  | k :: ks, _, n, x, hn, v, hv => by
    cases x with
    | cons x1 x2 =>
      simp only [NestedKey.depthAll] at hn
      rcases List.mem_cons.mp hv with e | hv
      · rw [e]
        exact hbv_key k _ n x1 (by omega)
      · exact hbv_keys ks _ n x2 (by omega) v hv
end
/-- looking such a key up shows nothing -/
theorem unseen {k : NK} {b : Addr} {Q : Bool → Shared → Prop} (hk : Is8 s.heap k b) {ys : List Value} (hy : ∀ y ∈ ys, ∃ k' c, y = Value.ref c ∧ Is8 s.heap k' c) (q : Q false s) : wpAny (model P w) A (searchCouldBeSeen (.ref b) ys) Q E s := by
  unfold searchCouldBeSeen
  refine wpAny_bind (wpAny_forIn_list _ (fun left r s' => s' = s ∧ r.1 = none ∧ ∀ y ∈ left, ∃ k' c, y = Value.ref c ∧ Is8 s.heap k' c) _ ?_ ?_ _ _ ⟨rfl, rfl, hy⟩)
  · rintro v left r s' ⟨rfl, e, all⟩
    obtain ⟨k', c, rfl, hc⟩ := all v (List.mem_cons_self ..)
    have rest : ∀ y ∈ left, ∃ k' c, y = Value.ref c ∧ Is8 s'.heap k' c := fun y hy => all y (List.mem_cons_of_mem _ hy)
    dsimp only
    by_cases hv : (b == c || (carriedByValue (.ref b) && carriedByValue (.ref c))) = true
    · refine wp_if_pos hv ?_
      exact wpAny_pure ⟨rfl, rfl, rest⟩
    · refine wp_if_neg hv ?_
      refine wpAny_bind ((nestedKind P w).quiet (show (nestedKind P w).is s'.heap k b from hk) ?_)
      simp only [Bool.not_true, Bool.false_eq_true, if_false]
      refine wpAny_bind ((nestedKind P w).quiet (show (nestedKind P w).is s'.heap k' c from hc) ?_)
      simp only [Bool.not_true, Bool.false_eq_true, if_false]
      refine wpAny_bind (cls_key k _ 8 hk.1 hk.2 _ _ _ ?_)
      simp only [Bool.false_eq_true, if_false]
      refine wpAny_bind (cls_key k' _ 8 hc.1 hc.2 _ _ _ ?_)
      simp only [Bool.false_eq_true, if_false]
      exact wpAny_pure ⟨rfl, rfl, rest⟩
  · rintro ⟨r, x⟩ s' ⟨rfl, e, _⟩
    simp only at e
    subst e
    exact wpAny_pure q
end
end Sd
namespace Sd
open PySem PySem.Spec PyProof.Rows L2
/-! ### the table -/
abbrev rowN (w : World) (p : Addr × NK) : Int × Value := (p.2.hash w, Value.ref p.1)
structure Ts (w : World) (h : PySem.Heap) (a : Addr) (L : List (Addr × NK)) (es : Array (Int × Value)) (ep : Nat) (t : SetTable) : Prop where
  obj : ∃ o, h.get? a = some o ∧ o.ExactSet ∧ o.data = .set es ep t
  row : es.toList = L.map (rowN w)
  tab : TabOk t (L.map fun p => p.2.hash w)
  one : (L.map (·.2)).Nodup
  mem : ∀ p ∈ L, Is8 h p.2 p.1
  led : w.params.followText "set-order" = true ∨ t.led = true
  free : L.length * 5 < t.mask * 3
  few : L.length < 64
/-- where the search for the hash h begins -/
abbrev beg (t : SetTable) (h : Int) : SetTable.Probe := runAt t.mask (SetTable.bits h % (t.mask + 1)) (SetTable.bits h)
section
variable {P : Program} {w : World} {A : Around} {E : Value → Shared → Prop} {s : Shared} {a : Addr} {L : List (Addr × NK)} {es : Array (Int × Value)} {ep : Nat} {t : SetTable}
theorem Ts.num (R : Ts w s.heap a L es ep t) : es.size = L.length := by
  have z := congrArg List.length R.row
  rwa [Array.length_toList, List.length_map] at z
theorem Ts.fit (R : Ts w s.heap a L es ep t) : t.fits es.size = true := by
  have z1 := R.tab.sz
  have z2 := R.num
  have z3 := R.free
  rw [List.length_map] at z1
  unfold SetTable.fits SetTable.fill
  rw [R.tab.dm, Bool.and_eq_true, beq_iff_eq, decide_eq_true_eq]
  show t.place.size = es.size ∧ t.place.size + 0 ≤ t.mask
  omega
theorem Ts.at (R : Ts w s.heap a L es ep t) {i : Nat} {p : Addr × NK} (e : L[i]? = some p) : es[i]? = some (rowN w p) := by
  rw [← Array.getElem?_toList, R.row, List.getElem?_map, e]
  rfl
theorem Ts.nogw (R : Ts w s.heap a L es ep t) : ¬ t.gaveWay = true := by
  unfold SetTable.gaveWay
  rw [mask_odd R.tab.mok]
  exact Bool.false_ne_true
theorem beg_quiet (m : Nat) : ∀ (n : Nat) (p : SetTable.Probe), p.dummy = none → (nth m p n).dummy = none
  | 0, _, h => h
  | n + 1, p, h => beg_quiet m n (adv m p) (by
    unfold adv
    split <;> exact h)
/-- from step c of the way on: found, or the first empty slot -/
theorem look_from (R : Ts w s.heap a L es ep t) {x : Addr} {k : NK} (hx : Is8 s.heap k x) (hu : A.units + 8 < cLine) {K : Nat} (K1 : K < 10 * SetTable.turns t.mask) (K2 : way t.mask (k.hash w) K ∉ t.place.toList) (K3 : ∀ c, c < K → way t.mask (k.hash w) c ∈ t.place.toList)
    {Q : SetFound → Shared → Prop} (yes : k ∈ L.map (·.2) → Q (.there none) s) (no : k ∉ L.map (·.2) → Q (.free (way t.mask (k.hash w) K) false) s) :
    ∀ (fuel c : Nat) (stand : Option SetTable.Probe), stand.getD (t.probeStart (k.hash w)) = nth t.mask (beg t (k.hash w)) c → c ≤ K → K - c < fuel →
      (∀ (i : Nat) p, L[i]? = some p → p.2 = k → ∃ d, c ≤ d ∧ d < K ∧ t.place.toList[i]? = some (way t.mask (k.hash w) d)) → wpAny (model P w) A (setSearchFrom a (.ref x) (k.hash w) true fuel stand) Q E s := by
  intro fuel
  induction fuel with
  | zero => exact fun c _ _ _ lt _ => absurd lt (Nat.not_lt_zero _)
  | succ fuel ih =>
    intro c stand est cK lt here
    obtain ⟨o, ho, hex, hd⟩ := R.obj
    have sum : ∀ q, nth t.mask (nth t.mask (beg t (k.hash w)) c) q = nth t.mask (beg t (k.hash w)) (c + q) := fun q => (nth_add t.mask c _ q).symm
    have wy : ∀ q, (nth t.mask (nth t.mask (beg t (k.hash w)) c) q).j = way t.mask (k.hash w) (c + q) := fun q => congrArg SetTable.Probe.j (sum q)
    have hsh : ∀ (i : Nat) p, L[i]? = some p → (es[i]?.map (·.1)).getD 0 = p.2.hash w := fun i p hp => by
      rw [R.at hp]
      rfl
    have met := go_spec t R.tab.ris R.tab.dm (fun i => (es[i]?.map (·.1)).getD 0) (k.hash w) (10 * SetTable.turns t.mask) (K - c) _ (beg_quiet t.mask c (beg t (k.hash w)) rfl) (by omega) (fun q hq => by rw [wy]; exact K3 _ (by omega)) (by rw [wy, show c + (K - c) = K by omega]; exact K2)
    rw [setSearchFrom_succ]
    refine wpAny_bind (wpAny_setState_of ho hd R.fit ?_)
    dsimp only
    refine wp_if_neg R.nogw ?_
    try refine wpAny_bind (wpAny_pure ?_)
    rcases met with ⟨q, i, hq, hi, hh, hno, pr⟩ | ⟨hno, pr⟩
    · have pr2 : t.probe (fun i => (es[i]?.map (·.1)).getD 0) (k.hash w) (stand.getD (t.probeStart (k.hash w))) = some (.candidate (way t.mask (k.hash w) (c + q)) i (nth t.mask (beg t (k.hash w)) (c + (q + 1)))) := by
        rw [est, ← wy, ← sum]
        exact pr
      rw [pr2]
      dsimp only
      rw [wy] at hi
      have iL : i < L.length := by
        have z1 := (List.getElem?_eq_some_iff.mp hi).1
        have z2 := R.tab.sz
        rw [List.length_map] at z2
        rw [Array.length_toList] at z1
        omega
      obtain ⟨p, hp⟩ : ∃ p, L[i]? = some p := ⟨_, List.getElem?_eq_getElem iL⟩
      have pm : p ∈ L := List.mem_of_getElem? hp
      have go : wpAny (model P w) A (searchRest a (.ref x) (k.hash w) true fuel es t (way t.mask (k.hash w) (c + q)) i (nth t.mask (beg t (k.hash w)) (c + (q + 1)))) Q E s := by
        unfold searchRest
        rw [R.at hp]
        dsimp only
        refine wpAny_bind (wpAny_holding ((nestedKind P w).eqBool (show A.units + 8 < cLine from hu) (show (nestedKind P w).is s.heap p.2 p.1 from R.mem p pm) (show (nestedKind P w).is s.heap k x from hx) ?_))
        refine wpAny_bind (wpAny_setState_of ho hd R.fit ?_)
        dsimp only
        by_cases e : p.2 = k
        · refine wp_if_pos (by simp [e]) ?_
          exact wpAny_pure (yes (List.mem_map.mpr ⟨p, pm, e⟩))
        · refine wp_if_neg (by simp [e]) ?_
          try refine wpAny_bind (wpAny_pure ?_)
          have live : t.slot (way t.mask (k.hash w) (c + q)) = .live i := slot_live R.tab.ris hi
          rw [sameMem]
          dsimp only
          simp only [if_true, live, R.at hp]
          refine wpAny_bind (wpAny_isSame_ref_self (wpAny_bind (wpAny_pure ?_)))
          simp only [if_true]
          refine wp_if_neg (by simp [e]) ?_
          refine ih (c + (q + 1)) _ rfl (by omega) (by omega) fun i' p' hp' e' => ?_
          obtain ⟨d, d1, d2, d3⟩ := here i' p' hp' e'
          refine ⟨d, Nat.not_lt.mp fun lt' => ?_, d2, d3⟩
          rcases Nat.lt_or_ge d (c + q) with z | z
          · exact hno (d - c) i' (by omega) (by rw [wy, show c + (d - c) = d by omega]; exact d3) ((hsh i' p' hp').trans (by rw [e']))
          · have ed : d = c + q := by omega
            rw [ed] at d3
            have live2 := slot_live R.tab.ris d3
            rw [live] at live2
            injection live2 with ei
            rw [← ei, hp] at hp'
            exact e (by rw [Option.some.inj hp']; exact e')
      by_cases hl : t.led = true
      · refine wp_if_neg (by simp [hl]) ?_
        try refine wpAny_bind (wpAny_pure ?_)
        exact go
      · refine wp_if_pos (by simp [hl]) ?_
        refine wpAny_bind (unseen hx (fun y hy => ?_) ?_)
        · obtain ⟨e, he, rfl⟩ := List.mem_map.mp hy
          have e1 : e ∈ es ∧ e.1 = k.hash w := by simpa using he
          have e2 : e ∈ es.toList := by simpa using e1.1
          rw [R.row] at e2
          obtain ⟨p', hp', rfl⟩ := List.mem_map.mp e2
          exact ⟨p'.2, p'.1, rfl, R.mem p' hp'⟩
        · refine wp_if_neg Bool.false_ne_true ?_
          try refine wpAny_bind (wpAny_pure ?_)
          exact go
    · have pr2 : t.probe (fun i => (es[i]?.map (·.1)).getD 0) (k.hash w) (stand.getD (t.probeStart (k.hash w))) = some (.empty (way t.mask (k.hash w) K) none) := by
        have z := wy (K - c)
        rw [show c + (K - c) = K by omega] at z
        rw [est, ← z]
        exact pr
      rw [pr2]
      dsimp only
      refine wpAny_pure (no fun hm => ?_)
      obtain ⟨p, pm, e⟩ := List.mem_map.mp hm
      obtain ⟨i, hp⟩ := List.mem_iff_getElem?.mp pm
      obtain ⟨d, d1, d2, d3⟩ := here i p hp e
      exact hno (d - c) i (by omega) (by rw [wy, show c + (d - c) = d by omega]; exact d3) ((hsh i p hp).trans (by rw [e]))
theorem look (R : Ts w s.heap a L es ep t) {x : Addr} {k : NK} (hx : Is8 s.heap k x) (hu : A.units + 8 < cLine) {Q : SetFound → Shared → Prop} (yes : k ∈ L.map (·.2) → Q (.there none) s)
    (no : ∀ K, k ∉ L.map (·.2) → way t.mask (k.hash w) K ∉ t.place.toList → (∀ c, c < K → way t.mask (k.hash w) c ∈ t.place.toList) → Q (.free (way t.mask (k.hash w) K) false) s) : wpAny (model P w) A (setSearch a (.ref x) (k.hash w) true) Q E s := by
  have z := R.free
  obtain ⟨K, K1, K2, K3⟩ := R.tab.first (by rw [List.length_map]; omega) (k.hash w)
  have small : 10 * SetTable.turns t.mask ≤ 1500 := by
    unfold SetTable.turns
    rcases R.tab.mok with e | e | e <;> omega
  unfold setSearch
  refine look_from R hx hu K1 K2 K3 yes (fun n => no K n K2 K3) 100000 0 none rfl (Nat.zero_le _) (by omega) fun i p hp e => ?_
  have hi : (L.map fun p => p.2.hash w)[i]? = some (k.hash w) := by
    rw [List.getElem?_map, hp, ← e]
    rfl
  have il : i < t.place.toList.length := by
    have z1 := (List.getElem?_eq_some_iff.mp hp).1
    have z2 := R.tab.sz
    rw [List.length_map] at z2
    rw [Array.length_toList]
    omega
  obtain ⟨j, hj⟩ : ∃ j, t.place.toList[i]? = some j := ⟨_, List.getElem?_eq_getElem il⟩
  obtain ⟨d, d1, d2⟩ := R.tab.before K2 hi hj
  exact ⟨d, Nat.zero_le _, d1, by rw [hj, d2]⟩
end
end Sd
namespace Sd
open PySem PySem.Spec PyProof.Rows L2
/-! ### the table laid anew; one key more -/
theorem range_get {α : Type} (L : List α) : ∀ n, n ≤ L.length → (List.range n).filterMap (fun i => L[i]?) = L.take n
  | 0, _ => rfl
  | n + 1, hn => by
    obtain ⟨x, e⟩ : ∃ x, L[n]? = some x := ⟨_, List.getElem?_eq_getElem hn⟩
    rw [List.range_succ, List.filterMap_append, range_get L n (Nat.le_of_succ_le hn), List.take_add_one, e]
    congr 1
    rw [List.filterMap_cons_some e]
    rfl
section
variable {P : Program} {w : World} {A : Around} {E : Value → Shared → Prop} {s : Shared} {a : Addr} {L : List (Addr × NK)} {es : Array (Int × Value)} {ep : Nat} {t : SetTable}
theorem ordered {order : Array Nat} (row : es.toList = L.map (rowN w)) (pm : order.toList.Perm (List.range L.length)) :
    ∃ M : List (Addr × NK), (order.filterMap (es[·]?)).toList = M.map (rowN w) ∧ M.Perm L ∧ (M.map fun p => p.2.hash w) = order.toList.map fun i => (es.map (·.1)).getD i 0 := by
  have ent : ∀ i : Nat, es[i]? = (L[i]?).map (rowN w) := fun i => by rw [← Array.getElem?_toList, row, List.getElem?_map]
  refine ⟨order.toList.filterMap (fun i => L[i]?), ?_, ?_, ?_⟩
  · rw [List.map_filterMap]
    have z : (order.filterMap (es[·]?)).toList = order.toList.filterMap (fun i => es[i]?) := by simp
    rw [z]
    congr 1
    funext i
    exact ent i
  · have z := pm.filterMap (fun i => L[i]?)
    rwa [range_get L L.length (Nat.le_refl _), List.take_length] at z
  · have all : ∀ i ∈ order.toList, i < L.length := fun i hi => List.mem_range.mp (pm.mem_iff.mp hi)
    revert all
    generalize order.toList = l
    intro all
    induction l with
    | nil => rfl
    | cons i l ih =>
      obtain ⟨p, hp⟩ : ∃ p, L[i]? = some p := ⟨_, List.getElem?_eq_getElem (all i (List.mem_cons_self ..))⟩
      have e1 : (es.map (·.1)).getD i 0 = p.2.hash w := by
        have z : (es.map (·.1))[i]? = some (p.2.hash w) := by
          rw [Array.getElem?_map, ent i, hp]
          rfl
        simp [Array.getD_eq_getD_getElem?, z]
      rw [List.filterMap_cons_some hp, List.map_cons, List.map_cons, ih fun j hj => all j (List.mem_cons_of_mem _ hj), e1]
theorem is8_but {h h' : PySem.Heap} {k : NK} {b : Addr} {o : Obj} (x : Is8 h k b) (ho : h.get? a = some o) (hd : o.data = .set es ep t) (sb : Heap.SameBut a h h') : Is8 h' k b :=
  ⟨NestedIs.at (fun c oc vs n hc hv => by
    refine (sb.2 c fun e => ?_).trans hc
    rw [e, ho] at hc
    cases hc
    rw [hd] at hv
    cases hv) k _ x.1, x.2⟩
theorem is8_keep {h h' : PySem.Heap} {k : NK} {b : Addr} (x : Is8 h k b) (kp : ∀ c o, h.get? c = some o → h'.get? c = some o) : Is8 h' k b := ⟨NestedIs.at (fun c o _ _ hc _ => kp c o hc) k _ x.1, x.2⟩
theorem relay {o : Obj} (ho : s.heap.get? a = some o) (hex : o.ExactSet) (hd : o.data = .set es ep t) (row : es.toList = L.map (rowN w)) (hsz : t.place.size = es.size) (hdm : t.dummies = #[]) (hfl : es.size ≤ t.mask) (one : (L.map (·.2)).Nodup) (mem : ∀ p ∈ L, Is8 s.heap p.2 p.1)
    (led : w.params.followText "set-order" = true ∨ t.led = true) (few : L.length < 64) {want M : Nat} (hw : SetTable.sizeAbove want - 1 = M) (hM : MaskOk M) (h128 : SetTable.sizeAbove want ≤ 128) (hn : L.length * 5 < M * 3) {Q : Unit → Shared → Prop}
    (q : ∀ h' L' es' ep' t', Heap.SameBut a s.heap h' → Ts w h' a L' es' ep' t' → L'.Perm L → Q () { s with heap := h' }) : wpAny (model P w) A (setRelay a want) Q E s := by
  have num : es.size = L.length := by
    have z := congrArg List.length row
    rwa [Array.length_toList, List.length_map] at z
  have fit : t.fits es.size = true := by
    unfold SetTable.fits SetTable.fill
    rw [hdm, Bool.and_eq_true, beq_iff_eq, decide_eq_true_eq]
    exact ⟨hsz, by show t.place.size + 0 ≤ t.mask; omega⟩
  obtain ⟨t', order, er, pm, T, em, el, _, _⟩ := relaid_ok t (hs := es.map (·.1)) (wanted := want) hw hM (by rw [Array.size_map, num]; omega)
  rw [Array.size_map, num] at pm
  obtain ⟨M', r1, r2, r3⟩ := ordered row pm
  have num2 : (order.filterMap (es[·]?)).size = es.size := by
    have z := congrArg List.length r1
    rw [Array.length_toList, List.length_map, r2.length_eq] at z
    rw [z, num]
  rw [← r3] at T
  rw [setRelay_eq]
  refine wpAny_bind (wpAny_setState_of ho hd fit ?_)
  dsimp only
  refine wp_if_neg (by rw [sizeLine_eq]; omega) ?_
  try refine wpAny_bind (wpAny_pure ?_)
  rw [er]
  dsimp only
  refine wpAny_bind (wp_if_neg (by rw [num2]; simp) ?_)
  try refine wpAny_bind (wpAny_pure ?_)
  refine wpAny_pure ?_
  dsimp only
  refine wpAny_storeSet_of ho hd ?_ (by rw [num2, num, sizeLine_eq]; omega)
  have sb : Heap.SameBut a s.heap (s.heap.update a (Obj.putSet (order.filterMap (es[·]?)) t')) := Heap.SameBut.update ..
  refine q _ M' _ (ep + 1) t' sb ⟨⟨_, store_at ho hd, ⟨hex.1, hex.2.1, hex.2.2⟩, rfl⟩, r1, T, (r2.map (·.2)).nodup_iff.mpr one, fun p hp => is8_but (mem p (r2.mem_iff.mp hp)) ho hd sb, by rw [el]; exact led, by rw [r2.length_eq, em]; exact hn, by rw [r2.length_eq]; exact few⟩ r2
theorem add1 (R : Ts w s.heap a L es ep t) {x : Addr} {k : NK} (hx : Is8 s.heap k x) (hu : A.units + 8 < cLine) (few : L.length + 1 < 64) {Q : Bool → Shared → Prop}
    (q : ∀ b h' L' es' ep' t', Heap.SameBut a s.heap h' → Ts w h' a L' es' ep' t' → (k ∈ L.map (·.2) → L' = L) → (k ∉ L.map (·.2) → L'.Perm ((x, k) :: L)) → Q b { s with heap := h' }) : wpAny (model P w) A (setAddHashed a (.ref x) (k.hash w)) Q E s := by
  obtain ⟨o, ho, hex, hd⟩ := R.obj
  have num := R.num
  have free := R.free
  unfold setAddHashed
  rw [show (100000 : Nat) = 99999 + 1 from rfl, setAddHashedIn_succ]
  refine wpAny_holding (wpAny_bind (wpAny_setState_of ho hd R.fit ?_))
  dsimp only
  refine wp_if_neg (by simp [byScan, Value.scannable]) ?_
  try refine wpAny_bind (wpAny_pure ?_)
  refine wpAny_bind (look R hx hu (fun hm => ?_) fun K hm K2 K3 => ?_)
  · dsimp only
    exact wpAny_pure (q false s.heap L es ep t (Heap.SameBut.refl a s.heap) R (fun _ => rfl) fun n => absurd hm n)
  dsimp only
  refine wpAny_bind (wpAny_setState_of ho hd R.fit ?_)
  dsimp only
  obtain ⟨p1, p2, p3, p4, p5, p6, p7, p8, p9⟩ := R.tab.put K2 K3
  generalize epp : t.put (way t.mask (k.hash w) K) = pp at p1 p3 p4 p5 p6 p7 p8 p9 ⊢
  obtain ⟨t1, j⟩ := pp
  dsimp only at p1 p3 p4 p5 p6 p7 p8 p9 ⊢
  subst p1
  -- what follows does not depend on `plain`
  have rest : ∀ t2 : SetTable, TabOk t2 ((L.map fun p => p.2.hash w).take (SetTable.below t.place (way t.mask (k.hash w) K)) ++ k.hash w :: (L.map fun p => p.2.hash w).drop (SetTable.below t.place (way t.mask (k.hash w) K))) → t2.mask = t.mask → t2.led = t.led → t2.fill = (L.map fun p => p.2.hash w).length + 1 →
      wpAny (model P w) A (do
        storeSet a (SetTable.insertAt es (SetTable.below t.place (way t.mask (k.hash w) K)) (k.hash w, Value.ref x)) t2
        if !false && t2.tooFull then setRelay a (SetTable.grown (es.size + 1))
        return true : Sem Bool) Q E s := by
    intro t2 T2 m2 l2 f2
    have ins : (SetTable.insertAt es (SetTable.below t.place (way t.mask (k.hash w) K)) (k.hash w, Value.ref x)).toList = (L.take (SetTable.below t.place (way t.mask (k.hash w) K)) ++ (x, k) :: L.drop (SetTable.below t.place (way t.mask (k.hash w) K))).map (rowN w) := by
      rw [SetTable.toList_insertAt, R.row, List.map_append, List.map_cons, List.map_take, List.map_drop]
    have hh : (L.take (SetTable.below t.place (way t.mask (k.hash w) K)) ++ (x, k) :: L.drop (SetTable.below t.place (way t.mask (k.hash w) K))).map (fun p => p.2.hash w) = (L.map fun p => p.2.hash w).take (SetTable.below t.place (way t.mask (k.hash w) K)) ++ k.hash w :: (L.map fun p => p.2.hash w).drop (SetTable.below t.place (way t.mask (k.hash w) K)) := by
      rw [List.map_append, List.map_cons, List.map_take, List.map_drop]
    rw [← hh] at T2
    have pm := put_perm L (SetTable.below t.place (way t.mask (k.hash w) K)) (x, k)
    generalize L.take (SetTable.below t.place (way t.mask (k.hash w) K)) ++ (x, k) :: L.drop (SetTable.below t.place (way t.mask (k.hash w) K)) = L1 at ins T2 pm
    have len1 : L1.length = L.length + 1 := pm.length_eq
    have num1 : (SetTable.insertAt es (SetTable.below t.place (way t.mask (k.hash w) K)) (k.hash w, Value.ref x)).size = L.length + 1 := by
      have z := congrArg List.length ins
      rwa [Array.length_toList, List.length_map, len1] at z
    generalize SetTable.insertAt es (SetTable.below t.place (way t.mask (k.hash w) K)) (k.hash w, Value.ref x) = es1 at ins num1 ⊢
    have one1 : (L1.map (·.2)).Nodup := (pm.map (·.2)).nodup_iff.mpr (by
      rw [List.map_cons]
      exact List.nodup_cons.mpr ⟨hm, R.one⟩)
    refine wpAny_bind (wpAny_storeSet_of ho hd ?_ (by rw [num1, sizeLine_eq]; omega))
    have sb : Heap.SameBut a s.heap (s.heap.update a (Obj.putSet es1 t2)) := Heap.SameBut.update ..
    have ho1 := store_at (es' := es1) (t' := t2) ho hd
    generalize s.heap.update a (Obj.putSet es1 t2) = h1 at sb ho1 ⊢
    have mem1 : ∀ p ∈ L1, Is8 h1 p.2 p.1 := fun p hp => by
      rcases List.mem_cons.mp (pm.mem_iff.mp hp) with e | hp
      · rw [e]
        exact is8_but hx ho hd sb
      · exact is8_but (R.mem p hp) ho hd sb
    have led1 : w.params.followText "set-order" = true ∨ t2.led = true := by
      rw [l2]
      exact R.led
    have full : t2.tooFull = true ↔ (L.length + 1) * 5 ≥ t2.mask * 3 := by
      unfold SetTable.tooFull
      rw [decide_eq_true_eq, f2, List.length_map]
    by_cases hf : t2.tooFull = true
    · have z := full.mp hf
      have two : (t.mask = 7 ∧ L.length = 4) ∨ (t.mask = 31 ∧ L.length = 18) := by
        rcases R.tab.mok with e | e | e <;> rw [m2, e] at z <;> rw [e] at free <;> omega
      have sz1 : t2.place.size = es1.size := by
        have z := T2.sz
        rw [List.length_map, len1] at z
        rw [z, num1]
      rw [num]
      have go : ∀ M, SetTable.sizeAbove (SetTable.grown (L.length + 1)) - 1 = M → MaskOk M → SetTable.sizeAbove (SetTable.grown (L.length + 1)) ≤ 128 → (L.length + 1) * 5 < M * 3 →
          wpAny (model P w) A (setRelay a (SetTable.grown (L.length + 1))) (fun _ s' => wpAny (model P w) A (pure true) Q E s') E { s with heap := h1 } := fun M g1 g2 g3 g4 =>
        relay (s := { s with heap := h1 }) ho1 ⟨hex.1, hex.2.1, hex.2.2⟩ rfl ins sz1 T2.dm (by rw [num1, m2]; rcases two with ⟨e, e2⟩ | ⟨e, e2⟩ <;> omega) one1 mem1 led1 (by rw [len1]; exact few) g1 g2 g3 (by rw [len1]; exact g4) fun h2 L2 es2 ep2 t3 sb2 R2 pm2 =>
          wpAny_pure (q true h2 L2 es2 ep2 t3 (sb.trans sb2) R2 (fun y => absurd y hm) fun _ => pm2.trans pm)
      have goal : wpAny (model P w) A (setRelay a (SetTable.grown (L.length + 1))) (fun _ s' => wpAny (model P w) A (pure true) Q E s') E { s with heap := h1 } := by
        rcases two with ⟨_, e⟩ | ⟨_, e⟩
        · exact go 31 (by rw [e, size_20]) (.inr (.inl rfl)) (by rw [e, size_20]; decide) (by omega)
        · exact go 127 (by rw [e, size_76]) (.inr (.inr rfl)) (by rw [e, size_76]; decide) (by omega)
      first
        | exact wp_if_pos (by simp [hf]) (wpAny_bind goal)
        | exact wpAny_bind (wp_if_pos (by simp [hf]) goal)
    · have fin := q true h1 L1 es1 (ep + 1) t2 sb ⟨⟨_, ho1, ⟨hex.1, hex.2.1, hex.2.2⟩, rfl⟩, ins, T2, one1, mem1, led1, by rw [len1]; have := mt full.mpr hf; omega, by rw [len1]; exact few⟩ (fun y => absurd y hm) fun _ => pm
      first
        | exact wp_if_neg (by simp [hf]) (wpAny_pure fin)
        | exact wpAny_bind (wp_if_neg (by simp [hf]) (wpAny_pure (wpAny_pure fin)))
  have hb : HbvAt P w 8 s (.ref x) := hbv_key k _ 8 hx.1 hx.2
  have off : TabOk { t1 with plain := false } ((L.map fun p => p.2.hash w).take (SetTable.below t.place (way t.mask (k.hash w) K)) ++ k.hash w :: (L.map fun p => p.2.hash w).drop (SetTable.below t.place (way t.mask (k.hash w) K))) := ⟨p3.ris, p3.dm, p3.sz, p3.mok, p3.bd, p3.reach⟩
  have both : ∀ b : Bool, wpAny (model P w) A (do
        storeSet a (SetTable.insertAt es (SetTable.below t.place (way t.mask (k.hash w) K)) (k.hash w, Value.ref x)) (if b then t1 else { t1 with plain := false })
        if !false && (if b then t1 else { t1 with plain := false }).tooFull then setRelay a (SetTable.grown (es.size + 1))
        return true : Sem Bool) Q E s := fun b => by
    cases b with
    | true => exact rest t1 p3 p4 p5 p9
    | false => exact rest { t1 with plain := false } off p4 p5 p9
  by_cases pl : t1.plain = true
  · first
      | exact wpAny_bind (wp_if_pos pl (hb _ _ _ both))
      | exact wp_if_pos pl (wpAny_bind (hb _ _ _ both))
  · first
      | exact wpAny_bind (wp_if_neg pl (wpAny_pure (both true)))
      | exact wp_if_neg pl (wpAny_bind (wpAny_pure (both true)))
      | exact wp_if_neg pl (both true)
end
end Sd
namespace Sd
open PySem PySem.Spec PyProof.Rows L2
/-! ### set(xs): the loop -/
/-- what the first i keys leave -/
structure Some1 (ks : List (Addr × NK)) (i : Nat) (L : List (Addr × NK)) : Prop where
  sub : ∀ p ∈ L, p ∈ ks.take i
  all : ∀ p ∈ ks.take i, p.2 ∈ L.map (·.2)
  len : L.length ≤ i
theorem some_zero (ks : List (Addr × NK)) : Some1 ks 0 [] := ⟨fun p hp => (by cases hp), fun p hp => (by simp at hp), Nat.le_refl _⟩
theorem some_next {ks L L' : List (Addr × NK)} {i : Nat} {x : Addr × NK} (g : Some1 ks i L) (e : ks[i]? = some x) (same : x.2 ∈ L.map (·.2) → L' = L) (more : x.2 ∉ L.map (·.2) → L'.Perm (x :: L)) : Some1 ks (i + 1) L' := by
  have et : ks.take (i + 1) = ks.take i ++ [x] := by
    rw [List.take_add_one, e]
    rfl
  by_cases c : x.2 ∈ L.map (·.2)
  · rw [same c]
    refine ⟨fun p hp => by rw [et]; exact List.mem_append_left _ (g.sub p hp), fun p hp => ?_, Nat.le_succ_of_le g.len⟩
    rw [et] at hp
    rcases List.mem_append.mp hp with z | z
    · exact g.all p z
    · rw [List.mem_singleton.mp z]
      exact c
  · have pm := more c
    refine ⟨fun p hp => ?_, fun p hp => ?_, by rw [pm.length_eq]; exact Nat.succ_le_succ g.len⟩
    · rw [et]
      rcases List.mem_cons.mp (pm.mem_iff.mp hp) with z | z
      · rw [z]
        exact List.mem_append_right _ (List.mem_singleton.mpr rfl)
      · exact List.mem_append_left _ (g.sub p z)
    · rw [(pm.map (·.2)).mem_iff, List.map_cons]
      rw [et] at hp
      rcases List.mem_append.mp hp with z | z
      · exact List.mem_cons_of_mem _ (g.all p z)
      · rw [List.mem_singleton.mp z]
        exact List.mem_cons_self ..
section
variable {P : Program} {w : World} {A : Around} {E : Value → Shared → Prop} {s : Shared}
theorem Ts.keep {h h' : PySem.Heap} {a : Addr} {L : List (Addr × NK)} {es : Array (Int × Value)} {ep : Nat} {t : SetTable} (R : Ts w h a L es ep t) (ka : ∀ o, h.get? a = some o → h'.get? a = some o) (km : ∀ p ∈ L, Is8 h' p.2 p.1) : Ts w h' a L es ep t := by
  obtain ⟨o, ho, r⟩ := R.obj
  exact ⟨⟨o, ka o ho, r⟩, R.row, R.tab, R.one, km, R.led, R.free, R.few⟩
theorem ts_new {h : PySem.Heap} {a : Addr} (ho : h.get? a = some (Sx.emptyObj w)) : Ts w h a [] #[] 0 (.fresh 0 0 (!w.params.followText "set-order")) where
  obj := ⟨_, ho, ⟨rfl, rfl, rfl⟩, rfl⟩
  row := rfl
  tab := ⟨List.Pairwise.nil, rfl, rfl, .inl rfl, (fun x hx => by cases hx), fun i h j hi => by simp at hi⟩
  one := List.nodup_nil
  mem := fun p hp => nomatch hp
  led := by
    show _ ∨ (!w.params.followText "set-order") = true
    cases w.params.followText "set-order"
    · exact .inr rfl
    · exact .inl rfl
  free := by
    show 0 * 5 < 7 * 3
    decide
  few := by
    show 0 < 64
    decide
theorem fill {I : Addr} {fp wr : List Addr} {G : Array GenState → Array GenState → Prop} {n : Nat} {Pv : Nat → Value → Prop} {St : Nat → Shared → Prop} {R : Result → Shared → Prop} (W : WalksS P w A.in1 I fp wr G n Pv St) (S : Addr) (nS : S ∉ fp) (ks : List (Addr × NK)) (hn : n = ks.length) (few : ks.length < 64)
    (val : ∀ i v, Pv i v → ∃ p, ks[i]? = some p ∧ v = .ref p.1) (h0 : PySem.Heap) (hk : ∀ p ∈ ks, Is8 h0 p.2 p.1) (hS : h0.get? S = none) (hw : ∀ b ∈ wr, h0.get? b = none) (hu : A.in1.units + 8 < cLine) :
    ∀ (r i : Nat) (s : Shared), n - i = r → i ≤ n → St i s → (∀ b o, h0.get? b = some o → s.heap.get? b = some o) → (∃ L es ep t, Ts w s.heap S L es ep t ∧ Some1 ks i L) →
      (∀ s' L es ep t, Moved (S :: wr) G s s' → Ts w s'.heap S L es ep t → Some1 ks n L → (∀ b o, h0.get? b = some o → s'.heap.get? b = some o) → R (.ok (.ret .none)) s') →
      codeAny (model P w) A (.builtin "set.update.loop" ⟨[.ref S, .ref I], []⟩) R s := by
  have nW : S ∉ wr := fun z => nS (W.sub _ z)
  have up : ∀ b ∈ wr, b ∈ S :: wr := fun b hb => List.mem_cons_of_mem _ hb
  have old : ∀ {s s' : Shared}, Moved wr G s s' → (∀ b o, h0.get? b = some o → s.heap.get? b = some o) → ∀ b o, h0.get? b = some o → s'.heap.get? b = some o := fun mv kp b o e => mv.heap b o (fun hb => by rw [hw b hb] at e; cases e) (kp b o e)
  intro r
  induction r with
  | zero =>
    intro i s er hi hst kp ⟨L, es, ep, t, hT, g⟩ fin
    have ei : i = n := by omega
    subst ei
    refine codeAny_builtin F.entry_set_update_loop ?_
    rw [Around.under_plainId F.plain_set_update_loop _]
    show wpAny _ A.in1 (pyNext (.ref I) >>= _) _ _ s
    refine wpAny_bind (W.done s _ _ hst fun s' mv => ?_)
    have kp' := old mv kp
    show wpAny _ A.in1 (ret Value.none) _ _ s'
    exact wpAny_pure (fin s' L es ep t (mv.mono up) (hT.keep (fun o e => mv.heap S o nW e) fun p hp => is8_keep (hk p (List.mem_of_mem_take (g.sub p hp))) kp') g kp')
  | succ r ih =>
    intro i s er hi hst kp ⟨L, es, ep, t, hT, g⟩ fin
    have lt : i < n := by omega
    refine codeAny_builtin F.entry_set_update_loop ?_
    rw [Around.under_plainId F.plain_set_update_loop _]
    show wpAny _ A.in1 (pyNext (.ref I) >>= _) _ _ s
    refine wpAny_bind (W.item i s _ _ lt hst fun v s' hv hst' mv => ?_)
    obtain ⟨p, hp, rfl⟩ := val i v hv
    have kp' := old mv kp
    have hT' : Ts w s'.heap S L es ep t := hT.keep (fun o e => mv.heap S o nW e) fun p hp => is8_keep (hk p (List.mem_of_mem_take (g.sub p hp))) kp'
    have hx : Is8 s'.heap p.2 p.1 := is8_keep (hk p (List.mem_of_getElem? hp)) kp'
    show wpAny _ A.in1 (holding [Value.ref p.1] (setAdd S (.ref p.1)) >>= _) _ _ s'
    unfold setAdd
    refine wpAny_bind (wpAny_holding (wpAny_holding (wpAny_bind ((nestedKind P w).pyHash (show A.in1.units + 8 < cLine from hu) (show (nestedKind P w).is s'.heap p.2 p.1 from hx) ?_))))
    refine add1 (s := { s' with toks := s'.toks + p.2.draws }) hT' hx hu (by have := g.len; omega) fun b h' L' es' ep' t' sb hT2 c1 c2 => ?_
    have g' := some_next g hp c1 c2
    have kp2 : ∀ b o, h0.get? b = some o → h'.get? b = some o := fun b o e => (sb.2 b (fun z => by rw [z, hS] at e; cases e)).trans (kp' b o e)
    refine wpAny_pure ⟨plainId_quiet F.plain_set_update_loop _, ih (i + 1) _ (by omega) lt (W.frame _ s' _ _ hst' (Nat.le_add_right _ _) fun b hb o e => ?_) kp2 ⟨L', es', ep', t', hT2, g'⟩ fun s2 L2 es2 ep2 t2 mv2 hT3 g2 kp3 => ?_⟩
    · rw [sb.2 b (fun z : b = S => nS (by rw [← z]; exact hb))]
      exact e
    · refine fin s2 L2 es2 ep2 t2 (Moved.trans W.gtrans ((mv.mono up).then_heap (Nat.le_add_right _ _) fun b o hb e => ?_) mv2) hT3 g2 kp3
      rw [sb.2 b (fun z : b = S => hb (by rw [z]; exact List.mem_cons_self ..))]
      exact e
end
end Sd
namespace Sd
open PySem PySem.Spec PyProof.Rows L2
section
variable {P : Program} {w : World} {A : Around} {E : Value → Shared → Prop} {s : Shared}
set_option maxRecDepth 100000 in
set_option maxHeartbeats 4000000 in
/-- set(xs), xs a list or a tuple of keys -/
theorem call_setN {l : Addr} {items : Array Value} (ks : List (Addr × NK)) {Q : Value → Shared → Prop} (hh : A.handled = none) (hl : s.heap.IsList l items ∨ s.heap.IsTuple l items) (hit : items.toList = ks.map fun p => Value.ref p.1) (hk : ∀ p ∈ ks, Is8 s.heap p.2 p.1) (few : ks.length < 64) (hu : A.units + 12 < cLine)
    (h : ∀ (h' : PySem.Heap) (tk : Nat) L es ep t, Ts w h' s.heap.objs.size L es ep t → Some1 ks ks.length L → (∀ b o, s.heap.get? b = some o → h'.get? b = some o) → Q (.ref s.heap.objs.size) { s with heap := h', toks := tk }) :
    wpAny (model P w) A (call (.type "set") [.ref l]) Q E s := by
  have hisz : items.size = ks.length := by
    have z := congrArg List.length hit
    rwa [Array.length_toList, List.length_map] at z
  have hval : ∀ (i : Nat) (v : Value), items[i]? = some v → ∃ p, ks[i]? = some p ∧ v = .ref p.1 := fun i v hv => by
    rw [← Array.getElem?_toList, hit, List.getElem?_map] at hv
    cases e : ks[i]? with
    | none =>
      rw [e] at hv
      cases hv
    | some p =>
      rw [e] at hv
      exact ⟨p, rfl, (Option.some.inj hv).symm⟩
  obtain ⟨c, tl, hmro⟩ := PySem.F.called_set.mro
  have hmade := PySem.F.called_set.made
  have hsub := PySem.F.called_set.sub
  refine wpAny_call (codeAny_of_tree ?_)
  show wpAny _ _ (callAny (.type "set") _) _ _ _
  refine wpAny_pure ⟨Code.quiet_builtin _ (by decide +kernel), codeAny_builtin PySem.F.entry_type_call ?_⟩
  rw [Around.under_plain (weight_type_call_type "set" [.ref l] []) rfl]
  have h1 := PySem.F.called_set.notType
  have h2 := PySem.F.called_set.canCreate
  have hct := PySem.F.typeCall_set_1 (.ref l)
  repeat (any_goals (first | assumption | wp_step))
  refine codeAny_mono (code_set_led1 (.ref l) (E := E) (Q₁ := fun obj s₁ => obj = .ref s.heap.objs.size ∧ s₁ = { s with heap := s.heap.push (Sx.emptyObj w) }) ⟨rfl, rfl⟩) fun r s₁ hr => ?_
  cases r with
  | error e => exact hr
  | ok fl =>
    cases fl with
    | ret obj =>
      obtain ⟨rfl, rfl⟩ := hr
      have hS : (s.heap.push (Sx.emptyObj w)).get? s.heap.objs.size = some (Sx.emptyObj w) := Heap.get?_push_size _ rfl
      have hT : Shared.TypeIs { s with heap := s.heap.push (Sx.emptyObj w) } (.ref s.heap.objs.size) "set" := ⟨_, hS, rfl⟩
      have hli := PySem.F.called_set.init.lookup
      have hbi := PySem.F.called_set.init.bind (.ref s.heap.objs.size)
      repeat (any_goals (first | assumption | wp_step))
      refine codeAny_mono (codeAny_call_builtin (R := wants (fun r s₂ => r = .none ∧ ∃ h' tk L es ep t, s₂ = { s with heap := h', toks := tk } ∧ Ts w h' s.heap.objs.size L es ep t ∧ Some1 ks ks.length L ∧
          (∀ b o, s.heap.get? b = some o → h'.get? b = some o)) E) PySem.F.called_set.init.plain PySem.F.entry_set_init (check_set_init_1 hT ?_)) fun r₂ s₂ hr₂ => ?_
      · have hh3 : A.in1.in1.in1.handled = none := by simp [hh]
        have hz1 : (s.heap.push (Sx.emptyObj w)).objs.size = s.heap.objs.size + 1 := Heap.size_push ..
        rcases hl with hl | hl
        · obtain ⟨ol, hol, hcl, nl, hdl⟩ := hl
          obtain ⟨ocls, odict, odata, oslots⟩ := ol
          simp only at hcl hdl
          subst hcl; subst hdl
          have hol' : (s.heap.push (Sx.emptyObj w)).get? l = some { cls := .type "list", dict := odict, data := .seq items nl, slots := oslots } := Heap.get?_push_of_some _ hol
          have hsls := PySem.F.sub_list_set
          have hslf := PySem.F.sub_list_frozenset
          have hne : (Value.type "list" == Value.type "dict") = false := by decide
          have hl1 : (s.heap.push (Sx.emptyObj w)).IsList l items := ⟨_, hol', rfl, nl, rfl⟩
          unfold Builtin.«set.__init__» noKeywords Builtin.Frozenset.updateFrom
          generalize hPI : pyIter = PI
          wp_walk
          subst hPI
          refine wpAny_pyIter_list hl1 ?_
          refine wpAny_bind (wpAny_runValue ?_)
          have hlS : l < s.heap.objs.size := Heap.lt_size hol
          have hneI : l ≠ (s.heap.push (Sx.emptyObj w)).objs.size := by
            rw [hz1]
            exact Nat.ne_of_lt (Nat.lt_succ_of_lt hlS)
          have hSf : s.heap.objs.size ∉ [(s.heap.push (Sx.emptyObj w)).objs.size, l] := by
            simp only [List.mem_cons, List.mem_singleton, List.not_mem_nil, or_false, not_or]
            rw [hz1]
            exact ⟨Nat.ne_of_lt (Nat.lt_succ_self _), Nat.ne_of_gt hlS⟩
          have hget : ((s.heap.push (Sx.emptyObj w)).push { cls := .type "list_iterator", data := .fields #[.ref l, .int 0 0] }).get? s.heap.objs.size = some (Sx.emptyObj w) := Heap.get?_push_of_some _ hS
          refine fill ((Walks.list hh3 _ l hneI items).toS) s.heap.objs.size hSf ks hisz few hval s.heap hk (Heap.get?_none_of_le (Nat.le_refl _)) (fun b hb => ?hw1) (by simp only [Around.in1_units]; omega) (items.size - 0) 0 _ (by omega) (Nat.zero_le _)
            ⟨⟨_, Heap.get?_push_size _ rfl, rfl, rfl⟩, (hl1.push _)⟩ (fun b o e => Heap.get?_push_of_some _ (Heap.get?_push_of_some _ e)) ⟨[], _, _, _, ts_new hget, some_zero ks⟩ ?hR1
          case hw1 =>
            rw [List.mem_singleton.mp hb, hz1]
            exact Heap.get?_none_of_le (Nat.le_succ _)
          case hR1 =>
            intro s' L es ep t hm hS' hmm hkk
            obtain ⟨h', g', d', tk', os'⟩ := s'
            have eg : g' = s.gens := hm.gens
            have ed : d' = s.drawn := hm.drawn
            have eo : os' = s.os := hm.os
            subst eg; subst ed; subst eo
            show wpAny _ _ _ _ _ _
            refine wpAny_pure ?_
            show wpAny _ _ (ret Value.none) _ _ _
            exact wpAny_pure ⟨rfl, h', tk', L, es, ep, t, rfl, hS', hisz ▸ hmm, hkk⟩
        · obtain ⟨ol, hol, hcl, nl, hdl⟩ := hl
          obtain ⟨ocls, odict, odata, oslots⟩ := ol
          simp only at hcl hdl
          subst hcl; subst hdl
          have hol' : (s.heap.push (Sx.emptyObj w)).get? l = some { cls := .type "tuple", dict := odict, data := .seq items nl, slots := oslots } := Heap.get?_push_of_some _ hol
          have hsls := PySem.F.sub_tuple_set
          have hslf := PySem.F.sub_tuple_frozenset
          have hne : (Value.type "tuple" == Value.type "dict") = false := by decide
          have hl1 : (s.heap.push (Sx.emptyObj w)).IsTuple l items := ⟨_, hol', rfl, nl, rfl⟩
          unfold Builtin.«set.__init__» noKeywords Builtin.Frozenset.updateFrom
          generalize hPI : pyIter = PI
          wp_walk
          subst hPI
          refine wpAny_pyIter_tuple hl1 ?_
          refine wpAny_bind (wpAny_runValue ?_)
          have hlS : l < s.heap.objs.size := Heap.lt_size hol
          have hneI : l ≠ (s.heap.push (Sx.emptyObj w)).objs.size := by
            rw [hz1]
            exact Nat.ne_of_lt (Nat.lt_succ_of_lt hlS)
          have hSf : s.heap.objs.size ∉ [(s.heap.push (Sx.emptyObj w)).objs.size, l] := by
            simp only [List.mem_cons, List.mem_singleton, List.not_mem_nil, or_false, not_or]
            rw [hz1]
            exact ⟨Nat.ne_of_lt (Nat.lt_succ_self _), Nat.ne_of_gt hlS⟩
          have hget : ((s.heap.push (Sx.emptyObj w)).push { cls := .type "tuple_iterator", data := .fields #[.ref l, .int 0 0] }).get? s.heap.objs.size = some (Sx.emptyObj w) := Heap.get?_push_of_some _ hS
          refine fill ((Walks.tuple hh3 _ l hneI items).toS) s.heap.objs.size hSf ks hisz few hval s.heap hk (Heap.get?_none_of_le (Nat.le_refl _)) (fun b hb => ?hw2) (by simp only [Around.in1_units]; omega) (items.size - 0) 0 _ (by omega) (Nat.zero_le _)
            ⟨⟨_, Heap.get?_push_size _ rfl, rfl, rfl⟩, (hl1.push _)⟩ (fun b o e => Heap.get?_push_of_some _ (Heap.get?_push_of_some _ e)) ⟨[], _, _, _, ts_new hget, some_zero ks⟩ ?hR2
          case hw2 =>
            rw [List.mem_singleton.mp hb, hz1]
            exact Heap.get?_none_of_le (Nat.le_succ _)
          case hR2 =>
            intro s' L es ep t hm hS' hmm hkk
            obtain ⟨h', g', d', tk', os'⟩ := s'
            have eg : g' = s.gens := hm.gens
            have ed : d' = s.drawn := hm.drawn
            have eo : os' = s.os := hm.os
            subst eg; subst ed; subst eo
            show wpAny _ _ _ _ _ _
            refine wpAny_pure ?_
            show wpAny _ _ (ret Value.none) _ _ _
            exact wpAny_pure ⟨rfl, h', tk', L, es, ep, t, rfl, hS', hisz ▸ hmm, hkk⟩
      · cases r₂ with
        | error e => exact hr₂
        | ok fl₂ =>
          cases fl₂ with
          | ret r =>
            obtain ⟨rfl, h', tk, L, es, ep, t, rfl, hS', hmm, hk'⟩ := hr₂
            repeat (any_goals (first | assumption | wp_step))
            exact h _ _ _ _ _ _ hS' hmm hk'
          | _ => exact hr₂.elim
    | _ => exact hr.elim
end
end Sd
/-! Sorting tuples of alike data, the empty tuple among them. -/
namespace Sd
open PySem PySem.Spec PyProof.Rows L2 PySem.W PySem.Calls
open PySem.SeqAt
def more : PyData → Bool
  | .tuple (_ :: _) => true
  | _ => false
section
variable {P : Program} {w : World} {A : Around} {E : Value → Shared → Prop} {s : Shared}
theorem call_tuple_lt {Q : Value → Shared → Prop} {l b : Addr} {items items2 : Array Value} {e r : Nat → Bool} (hl : s.heap.IsTuple l items) (hb : s.heap.IsTuple b items2)
    (he : ∀ j (h1 : j < items.size) (h2 : j < items2.size), EqAt A.in1 s items[j] items2[j] (e j)) (hr : ∀ j (h1 : j < items.size) (h2 : j < items2.size), e j = false → RcLt A.in1 s items[j] items2[j] (r j))
    (h : Q (.bool (firstLt e r (decide (items.size < items2.size)) (List.range (min items.size items2.size)))) s) : wpAny (model P w) A (call (.builtin "tuple.__lt__") [.ref l, .ref b]) Q E s := by
  obtain ⟨⟨cls, dd, data, sl⟩, ho, hc, n, hd⟩ := id hl
  obtain ⟨⟨cls2, dd2, data2, sl2⟩, ho2, hc2, n2, hd2⟩ := id hb
  simp only at hc hd hc2 hd2
  subst hc hd hc2 hd2
  exact call_meets F.slot_tuple_lt ⟨_, ho, rfl⟩ F.entry_tuple_lt (F.args_tuple_lt_2 _ _) (tuple_ltAt l b items items2 n n2 dd dd2 sl sl2 e r) ⟨ho, ho2, he, hr, h⟩
theorem oneLt_tup {xs ys : List PyData} {a b : Value} {as bs : List Addr} {Q : Bool → Shared → Prop} (ra : PySem.Reads s.heap a (.tuple xs) as) (rb : PySem.Reads s.heap b (.tuple ys) bs) (h : alike (.tuple xs) (.tuple ys) = true)
    (hu : A.units + min (PyData.tuple xs).depth (PyData.tuple ys).depth < cLine) (hq : Q (dataLt (.tuple xs) (.tuple ys)) s) : wpAny (model P w) A (oneLt' true a b) Q E s := by
  have hal : alikeAll xs ys = true := by simpa [alike] using h
  cases ra with
  | @tuple l o vs n _ as₁ h1 h2 h3 h4 =>
    cases rb with
    | @tuple l' o' vs' n' _ bs₁ k1 k2 k3 k4 =>
      have n1 : vs.size = xs.length := by simpa using SeqAt.ReadsAll.length _ _ _ h4
      have n2 : vs'.size = ys.length := by simpa using SeqAt.ReadsAll.length _ _ _ k4
      rw [dataLt_tuple, ← firstLt_toks xs ys hal, ← n1, ← n2] at hq
      rw [oneLt'_eq]
      simp only [if_true]
      refine wpAny_bind (wpAny_cRoomFor (room_here hu) ?_)
      refine wpAny_bind (wpAny_callSpecialIfBound?_slot (T := "tuple") ⟨_, h1, h2⟩ F.slot_tuple_lt (call_tuple_lt (e := pairEq xs ys) (r := fun j => dataLt (xs.getD j .none) (ys.getD j .none)) ⟨_, h1, h2, _, h3⟩ ⟨_, k1, k2, _, k3⟩ (fun j j1 j2 => ?_) (fun j j1 j2 hj => ?_) ?_))
      · have := eqAt_alikeAll xs ys A.in1 s vs.toList vs'.toList _ _ h4 k4 hal (room_in hu) j (by simpa using j1) (by simpa using j2)
        simpa using this
      · have := rcLt_alikeAll xs ys A.in1 s vs.toList vs'.toList _ _ h4 k4 hal (room_in hu) j (by simpa using j1) (by simpa using j2) hj
        simpa using this
      · exact wpAny_truthy_bool hq
theorem firsts {M : Model} {A : Around} {E : Value → Shared → Prop} {s : Shared} : ∀ {vs : List Value} {ds : List PyData}, EachIs (fun v d => ∃ as, PySem.Reads s.heap v d as) vs ds → (∀ d ∈ ds, ∃ xs, d = .tuple xs) → ∀ {Q : List (Option Value) → Shared → Prop}, (∀ os : List (Option Value), os.map (·.isSome) = ds.map more → Q os s) → wpAny M A (vs.mapM firstOfTuple') Q E s
  | _, _, .nil, _, _, h => by
    rw [List.mapM_nil]
    exact wpAny_pure (h [] rfl)
  | _, _, .cons (a := v) (b := d) (as := vs) (bs := ds) ⟨as, r⟩ t, ht, Q, h => by
    obtain ⟨xs, rfl⟩ := ht d (List.mem_cons_self ..)
    cases r with
    | @tuple a o us n _ _ ho hc hd hr =>
      rw [List.mapM_cons]
      refine wpAny_bind ?_
      rw [kas_first_eq]
      refine wpAny_bind (Looks.here (show Looks M s.heap (typeOf (.ref a)) o.cls from (Looks.ld ho).andThen .now) ?_)
      rw [hc, if_neg (by first | decide | simp)]
      refine wpAny_bind (listItems_at ho hd (wpAny_pure ?_))
      refine wpAny_bind (firsts t (fun d hd => ht d (List.mem_cons_of_mem _ hd)) fun os eos => wpAny_pure (h _ ?_))
      have hn : us.size = xs.length := by simpa using SeqAt.ReadsAll.length _ _ _ hr
      have e1 : (us[0]?).isSome = more (.tuple xs) := by
        cases xs with
        | nil =>
          have z : us.size = 0 := hn
          rw [Array.getElem?_eq_none (by omega)]
          rfl
        | cons x xs =>
          have z : 0 < us.size := by
            rw [hn]
            exact Nat.succ_pos _
          rw [Array.getElem?_eq_getElem z]
          rfl
      rw [List.map_cons, List.map_cons, eos, e1]
theorem kind_of {M : Model} {A : Around} {E : Value → Shared → Prop} {s : Shared} {vs : List Value} {ds : List PyData} (e : EachIs (fun v d => ∃ as, PySem.Reads s.heap v d as) vs ds) (ht : ∀ d ∈ ds, ∃ xs, d = .tuple xs) (hne : ds.all more = false) {Q : SortKind → Shared → Prop}
    (h : Q (if (ds.map more).head? = some true then general' else oneType') s) : wpAny M A (keyKind' vs.toArray) Q E s := by
  rw [kat_kind_eq, List.mapM_toArray, map_eq_pure_bind]
  refine wpAny_bind (wpAny_bind (firsts e ht fun os eos => wpAny_pure ?_))
  have h1 : (os.toArray.all fun x => x.isSome) = false := by
    rw [List.all_toArray]
    have z : os.all (fun x => x.isSome) = (os.map (·.isSome)).all id := by
      rw [List.all_map]
      rfl
    rw [z, eos, List.all_map]
    exact hne
  rw [if_neg (by rw [h1]; exact Bool.false_ne_true)]
  have h2 : ((os.toArray[0]?).bind id).isSome = true ↔ (ds.map more).head? = some true := by
    rw [← eos]
    cases os with
    | nil => simp
    | cons o os =>
      cases o <;> simp
  by_cases c : (ds.map more).head? = some true
  · rw [if_pos c] at h
    rw [if_pos (h2.mpr c)]
    exact wpAny_pure h
  · rw [if_neg c] at h
    rw [if_neg (fun z => c (h2.mp z))]
    have hT : ∀ v ∈ vs, Looks M s.heap (typeOf v) (Value.type "tuple") := fun v hv => by
      obtain ⟨d, hd, as, r⟩ := e.left v hv
      obtain ⟨xs, rfl⟩ := ht d hd
      exact looks_reads r
    have hv : vs ≠ [] := by
      rintro rfl
      cases e
      exact absurd hne (by decide)
    rw [oneTypeOnly'_eq, List.mapM_toArray, map_eq_pure_bind]
    refine wpAny_bind (wpAny_bind (wpAny_bind (kas_mapM (r := Value.type "tuple") _ (fun v hv Q' hq => (hT v hv).here hq) (wpAny_pure ?_))))
    have hall2 : ((List.map (fun _ => Value.type "tuple") vs).toArray.all fun x => x == Value.type "tuple") = true := by
      simp only [List.all_toArray, List.all_map, List.all_eq_true]
      intro _ _
      rfl
    have h0 : (List.map (fun _ => Value.type "tuple") vs).toArray[0]? = some (Value.type "tuple") := by
      cases vs with
      | nil => exact absurd rfl hv
      | cons v vs => simp
    rw [h0]
    simp only [hall2, if_true]
    exact wpAny_pure (wpAny_pure h)
theorem sorts_tups {vs : List Value} {ds : List PyData} (e : EachIs (fun v d => ∃ as, PySem.Reads s.heap v d as) vs ds) (hal : AllAlike ds) (ht : ∀ d ∈ ds, ∃ xs, d = .tuple xs) (hu : ∀ d, d ∈ ds → A.units + d.depth < cLine) : SortsAt P w A s (dataKind s.heap ds) vs := by
  have room : ∀ {d d' : PyData}, d ∈ ds → A.units + min d.depth d'.depth < cLine := fun {d d'} hd => Nat.lt_of_le_of_lt (Nat.add_le_add_left (Nat.min_le_left _ _) _) (hu d hd)
  by_cases hne : ds.all more = true
  · refine SortsAt.data e hal (.inl fun d hd => ?_) hu
    have z := List.all_eq_true.mp hne d hd
    obtain ⟨xs, rfl⟩ := ht d hd
    cases xs with
    | nil => exact absurd z (by decide)
    | cons x xs => exact ⟨x, xs, rfl⟩
  · refine ⟨fun v hv => ?_, if (ds.map more).head? = some true then general' else oneType', ?_, fun _ E Q hq => kind_of e ht (by simpa using hne) hq⟩
    · obtain ⟨d, hd, as, r⟩ := e.left v hv
      exact ⟨_, dataKind_some hal hd r⟩
    · intro E x y a b Q ha hb hq
      obtain ⟨d, as, hd, ra, rfl⟩ := dataKind_inv ha
      obtain ⟨d', as', hd', rb, rfl⟩ := dataKind_inv hb
      have hdd := hal d hd d' hd'
      have hroom := room (d' := d') hd
      obtain ⟨xs, rfl⟩ := ht d hd
      obtain ⟨ys, rfl⟩ := ht d' hd'
      by_cases c : (ds.map more).head? = some true
      · rw [if_pos c]
        show wpAny (model P w) A (oneLt' false x y) Q E s
        exact oneLt_alike (fun z => nomatch z) ra rb hdd (fun z => nomatch z) hroom hq
      · rw [if_neg c, keyLt'_oneType]
        exact oneLt_tup ra rb hdd hroom hq
variable {β : Type} {vs : List Value} {bs : List β} {enc : β → PyData} {R : Value → β → Prop}
/-- xs.sort() -/
theorem list_sort_tups {a : Addr} {n : Nat} {Q : Value → Shared → Prop} (ho : s.heap.get? a = some (seqObj "list" vs.toArray n)) (e : EachIs R vs bs) (er : EachIs (fun v b => ∃ as, PySem.Reads s.heap v (enc b) as ∧ a ∉ as) vs bs) (hal : AllAlike (bs.map enc)) (ht : ∀ b ∈ bs, ∃ xs, enc b = .tuple xs) (hL : bs.length ≤ sizeLine)
    (hu : ∀ b, b ∈ bs → A.units + 1 + (enc b).depth < cLine) (h : ∀ out, out.length = bs.length → EachIs R out (bs.mergeSort (dataLe false enc)) → Q .none { s with heap := sortedHeap s.heap a vs (List.toArray out) }) :
    wpAny (model P w) A (call (.builtin "list.sort") [.ref a]) Q E s := by
  have er' : EachIs (fun v b => ∃ as, PySem.Reads (sortingHeap s.heap a vs) v (enc b) as) vs bs := each_keepBut (h' := sortingHeap s.heap a vs) (fun _ _ hb q => sortingHeap_old hb q) (fun o q => by rw [ho] at q; rw [← Option.some.inj q]) hal er
  refine wpAny_call_entry slot_list_sort ⟨_, ho, rfl⟩ entry_list_sort (list_sort_vals (κ := dataKind (sortingHeap s.heap a vs) (bs.map enc)) ho (sorts_tups (s := { s with heap := sortingHeap s.heap a vs }) (each_map (R := fun v d => ∃ as, PySem.Reads (sortingHeap s.heap a vs) v d as) enc er') hal (fun d hd => ?_) (bound_map hu)) (by rw [e.length]; exact hL) ⟨.none, rfl, ?_⟩) (args_list_sort _)
  · obtain ⟨b, hb, rfl⟩ := List.mem_map.mp hd
    exact ht b hb
  · exact h _ (by rw [sortVals_length false rfl]; exact e.length) (sortVals_data false e er' hal)
end
end Sd
/-! Sets of nested tuples over the layer: set(xs), sorted(set). -/
namespace Sd
open PySem PySem.Spec PyProof.Rows L2 Bx TL Dx PySem.W PySem.Calls
mutual
/-- the key that a datum is -/
def nk : PyData → NK
  | .int i => .num i
  | .str x => .text x
  | .tuple xs => .tup (nks xs)
  | _ => .none
def nks : List PyData → List NK
  | [] => []
  | d :: ds => nk d :: nks ds
end
mutual
/-- made of whole numbers, texts and tuples -/
def plain : PyData → Bool
  | .int _ => true
  | .str _ => true
  | .tuple xs => plains xs
  | _ => false
def plains : List PyData → Bool
  | [] => true
  | d :: ds => plain d && plains ds
end
mutual
theorem nk_inj : ∀ (d e : PyData), plain d = true → plain e = true → nk d = nk e → d = e
  | .int i, e, _, he, h => by
    cases e <;> first | (simp only [nk] at h; cases h; rfl) | (simp only [nk] at h; cases h; done) | (simp only [plain] at he; cases he; done)
  | .str i, e, _, he, h => by
    cases e <;> first | (simp only [nk] at h; cases h; rfl) | (simp only [nk] at h; cases h; done) | (simp only [plain] at he; cases he; done)
  | .tuple xs, e, hd, he, h => by
    cases e with
    | tuple ys =>
      simp only [nk, NestedKey.tup.injEq] at h
      simp only [plain] at hd he
      rw [nks_inj xs ys hd he h]
    | _ => first | (simp only [nk] at h; cases h; done) | (simp only [plain] at he; cases he; done)
  | .none, _, hd, _, _ => by simp [plain] at hd
  | .bool _, _, hd, _, _ => by simp [plain] at hd
  | .list _, _, hd, _, _ => by simp [plain] at hd
  | .dict _, _, hd, _, _ => by simp [plain] at hd
theorem nks_inj : ∀ (ds es : List PyData), plains ds = true → plains es = true → nks ds = nks es → ds = es
  | [], [], _, _, _ => rfl
  | [], _ :: _, _, _, h => by simp [nks] at h
  | _ :: _, [], _, _, h => by simp [nks] at h
  | d :: ds, e :: es, hd, he, h => by
    simp only [nks, List.cons.injEq] at h
    simp only [plains, Bool.and_eq_true] at hd he
    rw [nk_inj d e hd.1 he.1 h.1, nks_inj ds es hd.2 he.2 h.2]
end
mutual
theorem is_nk {h : PySem.Heap} : ∀ (d : PyData) (v : Value) (as : List Addr), plain d = true → PySem.Reads h v d as → NestedIs h (nk d) v ∧ as = []
  | .int _, _, _, _, r => by
    cases r
    exact ⟨.int _ _, rfl⟩
  | .str _, _, _, _, r => by
    cases r
    exact ⟨.text _ _, rfl⟩
  | .tuple xs, _, _, hd, r => by
    simp only [plain] at hd
    cases r with
    | tuple h1 h2 h3 h4 =>
      obtain ⟨q1, q2⟩ := is_nks xs _ _ hd h4
      exact ⟨.tup h1 h2 h3 q1, q2⟩
  | .none, _, _, hd, _ => by simp [plain] at hd
  | .bool _, _, _, hd, _ => by simp [plain] at hd
  | .list _, _, _, hd, _ => by simp [plain] at hd
  | .dict _, _, _, hd, _ => by simp [plain] at hd
theorem is_nks {h : PySem.Heap} : ∀ (ds : List PyData) (vs : List Value) (as : List Addr), plains ds = true → PySem.ReadsAll h vs ds as → NestedAll h (nks ds) vs ∧ as = []
  | [], _, _, _, r => by
    cases r
    exact ⟨.nil, rfl⟩
  | d :: ds, _, _, hd, r => by
    simp only [plains, Bool.and_eq_true] at hd
    cases r with
    | cons r1 r2 =>
      obtain ⟨q1, q2⟩ := is_nk d _ _ hd.1 r1
      obtain ⟨q3, q4⟩ := is_nks ds _ _ hd.2 r2
      exact ⟨.cons q1 q3, by rw [q2, q4]; rfl⟩
end
/-- a tuple made of such data, not deep -/
def K8 (d : PyData) : Prop := (∃ xs, d = .tuple xs) ∧ plain d = true ∧ (nk d).depth ≤ 8 ∧ d.depth ≤ 60
theorem perm_each {α β : Type} {R : α → β → Prop} {out its : List α} (pm : out.Perm its) : ∀ {ds : List β}, EachIs R its ds → ∃ es : List β, es.Perm ds ∧ EachIs R out es := by
  induction pm with
  | nil => exact fun e => ⟨_, List.Perm.refl _, e⟩
  | cons x p ih =>
    intro ds e
    cases e with
    | cons h t =>
      obtain ⟨es, q1, q2⟩ := ih t
      exact ⟨_ :: es, q1.cons _, .cons h q2⟩
  | swap x y l =>
    intro ds e
    cases e with
    | cons h t =>
      cases t with
      | cons h2 t2 => exact ⟨_ :: _ :: _, List.Perm.swap _ _ _, .cons h2 (.cons h t2)⟩
  | trans p q ih1 ih2 =>
    intro ds e
    obtain ⟨es, a1, a2⟩ := ih2 e
    obtain ⟨fs, b1, b2⟩ := ih1 a2
    exact ⟨fs, b1.trans a1, b2⟩
section
variable {P : Program} {w : World} {A : Around} {E : Value → Shared → Prop} {s : Shared} {a : Addr} {L : List (Addr × NK)} {es : Array (Int × Value)} {ep : Nat} {t : SetTable}
theorem sorted_setN {Rl : Value → PyData → Prop} {ds : List PyData} {Q : Value → Shared → Prop} (T : Ts w s.heap a L es ep t) (hh : A.handled = none) (hu : A.units + 65 < cLine)
    (e : EachIs Rl (L.map fun p => Value.ref p.1) ds) (er : EachIs (fun u d => ∃ as, PySem.Reads s.heap u d as) (L.map fun p => Value.ref p.1) ds) (hal : AllAlike ds) (hk : ∀ d ∈ ds, K8 d)
    (hQ : ∀ s' p (out : List Value) (c : Nat) (fs : List PyData), (∀ b o, s.heap.get? b = some o → s'.heap.get? b = some o) → s'.gens = s.gens → s'.os = s.os → s.heap.objs.size ≤ p →
      s'.heap.get? p = some (seqObj "list" out.toArray c) → fs.Perm ds → EachIs Rl out (fs.mergeSort (dataLe false id)) → Q (.ref p) s') :
    wpAny (model P w) A (call (.builtin "sorted") [.ref a]) Q E s := by
  obtain ⟨o, ho, hex, hd⟩ := T.obj
  have hn := T.num
  have hfew := T.few
  have hsb : scanBound = 4096 := rfl
  have hva : es.toList.map (·.2) = L.map fun p => Value.ref p.1 := by
    rw [T.row, List.map_map]
    rfl
  refine Calls.call_function_entry kind_sorted plain_sorted entry_sorted (args_sorted1 _) ?_
  unfold Builtin.«sorted»
  refine wpAny_bind (m := checkCount "sorted" 1 1 _) (wpAny_pure ?_)
  refine wpAny_bind (collect_set (A := A.in1) hh ⟨_, ho, hex.1, hd⟩ T.fit (by rw [hn]; omega) T.tab.ris T.led fun s1 vs k1 hz g1 o1 pm => ?_)
  rw [hva] at pm
  have both : EachIs (fun u d => Rl u d ∧ ∃ as, PySem.Reads s.heap u d as) (L.map fun p => Value.ref p.1) ds := by
    clear hQ hal hk hva
    revert e er
    generalize (L.map fun p => Value.ref p.1) = us
    intro e er
    clear pm
    induction e with
    | nil => exact .nil
    | cons h t ih =>
      cases er with
      | cons r1 r2 => exact .cons ⟨h, r1⟩ (ih r2)
  obtain ⟨fs, pf, ef⟩ := perm_each pm both
  have hfl : fs.length = L.length := by rw [pf.length_eq, ← e.length, List.length_map]
  have hvl : vs.length = L.length := by rw [pm.length_eq, List.length_map]
  have hline : vs.length ≤ sizeLine := by
    rw [hvl, sizeLine_eq]
    omega
  refine wpAny_bind (wpAny_newList ?_ hline)
  have hoL : (s1.heap.push (seqObj "list" vs.toArray 0)).get? s1.heap.objs.size = some (seqObj "list" vs.toArray 0) := Heap.get?_push_size _ rfl
  have mfs : ∀ d ∈ fs, d ∈ ds := fun d hd => pf.mem_iff.mp hd
  have kp : ∀ b u, s.heap.get? b = some u → (s1.heap.push (seqObj "list" vs.toArray 0)).get? b = some u := fun b u q => Heap.get?_push_of_some _ (k1 b u q)
  refine wpAny_bind (wpAny_holding (list_sort_tups (R := Rl) (enc := id) (bs := fs) hoL (ef.mono fun _ _ z => z.1) ?reads (by rw [List.map_id]; exact fun d hd d' hd' => hal d (mfs d hd) d' (mfs d' hd')) (fun d hd => (hk d (mfs d hd)).1) (by rw [hfl, sizeLine_eq]; omega) (fun d hd => ?room) fun out hout eo => ?done))
  case reads =>
    refine (each_mem ef).mono fun u d z => ?_
    obtain ⟨as, r⟩ := z.1.2
    have z0 := (is_nk d u as (hk d (mfs d z.2)).2.1 r).2
    exact ⟨as, PyProof.Rows.Reads.keeps kp r, by rw [z0]; exact List.not_mem_nil⟩
  case room =>
    have z := (hk d (mfs d hd)).2.2.2
    show A.in1.units + 1 + d.depth < cLine
    simp only [Around.in1_units]
    omega
  case done =>
    obtain ⟨c, hc⟩ := sortedHeap_at (vs := vs) (out := out.toArray) hoL
    refine wpAny_pure ⟨_, rfl, hQ _ s1.heap.objs.size out c fs (fun b u q0 => ?_) g1 o1 hz hc pf eo⟩
    have q := k1 b u q0
    have hlt := Heap.lt_size q
    show (sortedHeap (s1.heap.push (seqObj "list" vs.toArray 0)) s1.heap.objs.size vs _).get? b = some u
    rw [sortedHeap_old (Nat.ne_of_lt hlt) (by rw [size_push']; exact Nat.lt_succ_of_lt hlt)]
    exact Heap.get?_push_of_some _ q
end
/-! ### over the layer -/
def SetN (w : World) (a : Addr) (L : List (Addr × NK)) : HO := .ext fun h => ∃ h0 es ep t, Ts w h0 a L es ep t ∧ ∀ o, h0.get? a = some o → h.get? a = some o
section
variable {X : Cx} {pins : List (Addr × Obj)} {σ : L2.St} {H : Hp} {s : Shared}
theorem setN_ok {P : Program} {w : World} {h : PySem.Heap} {a : Addr} {L : List (Addr × NK)} {es : Array (Int × Value)} {ep : Nat} {t : SetTable} (R : Ts w h a L es ep t) : ObjOk P w H h a (SetN w a L) := by
  obtain ⟨o, ho, _⟩ := R.obj
  exact ⟨⟨h, es, ep, t, R, fun _ z => z⟩, ⟨_, ho⟩, fun h1 h2 ⟨h0, es, ep, t, p, k⟩ k2 => ⟨h0, es, ep, t, p, fun o z => k2 o (k o z)⟩⟩
theorem keys_of (I : Inv X pins σ H s) : ∀ {xs : List V} {us : List Value} {ds : List PyData}, DpAll X.K H xs ds → Vals xs us → (∀ d ∈ ds, K8 d) →
    ∃ ks : List (Addr × NK), us = ks.map (fun p => Value.ref p.1) ∧ ks.map (·.2) = ds.map nk ∧ (∀ p ∈ ks, Is8 s.heap p.2 p.1) ∧ ∀ p ∈ ks, ∃ d ∈ ds, p.2 = nk d ∧ Dp X.K H (V.ref p.1) d
  | [], [], [], _, _, _ => ⟨[], rfl, rfl, fun p hp => (by cases hp), fun p hp => (by cases hp)⟩
  | x :: xs, u :: us, d :: ds, h, r, hk => by
    cases h with
    | cons h1 h2 =>
      cases r with
      | cons r1 r2 =>
        obtain ⟨ks, q1, q2, q3, q4⟩ := keys_of I h2 r2 fun d hd => hk d (List.mem_cons_of_mem _ hd)
        obtain ⟨⟨ys, rfl⟩, k1, k2, k3⟩ := hk d (List.mem_cons_self ..)
        obtain ⟨as, rd⟩ := Dp.reads I _ _ _ h1 r1
        obtain ⟨b, zs, rfl, _⟩ := dp_tup h1
        have eu : u = Value.ref b := by
          cases r1
          rfl
        subst eu
        refine ⟨(b, nk (.tuple ys)) :: ks, by rw [q1]; rfl, by rw [List.map_cons, List.map_cons, q2], fun p hp => ?_, fun p hp => ?_⟩
        · rcases List.mem_cons.mp hp with z | z
          · rw [z]
            exact ⟨(is_nk _ _ _ k1 rd).1, k2⟩
          · exact q3 p z
        · rcases List.mem_cons.mp hp with z | z
          · rw [z]
            exact ⟨_, List.mem_cons_self .., rfl, h1⟩
          · obtain ⟨e, e1, e2⟩ := q4 p z
            exact ⟨e, List.mem_cons_of_mem _ e1, e2⟩
  | [], _ :: _, _, _, r, _ => by cases r
  | _ :: _, [], _, _, r, _ => by cases r
  | [], [], _ :: _, h, _, _ => by cases h
  | _ :: _, _ :: _, [], h, _, _ => by cases h
theorem nodup_of {α β : Type} (f : α → β) : ∀ {l : List α}, (l.map f).Nodup → l.Nodup
  | [], _ => List.nodup_nil
  | x :: l, h => by
    rw [List.map_cons, List.nodup_cons] at h
    exact List.nodup_cons.mpr ⟨fun z => h.1 (List.mem_map.mpr ⟨x, z, rfl⟩), nodup_of f h.2⟩
theorem pairs_same {α β : Type} : ∀ {l m : List (α × β)}, l.map (·.1) = m.map (·.1) → l.map (·.2) = m.map (·.2) → l = m
  | [], [], _, _ => rfl
  | [], _ :: _, h, _ => by simp at h
  | _ :: _, [], h, _ => by simp at h
  | (a, b) :: l, (c, d) :: m, h, g => by
    simp only [List.map_cons, List.cons.injEq] at h g
    rw [h.1, g.1, pairs_same h.2 g.2]
theorem pick {K : PySem.W.Frag} {ds : List PyData} : ∀ (L : List (Addr × NK)), (∀ p ∈ L, ∃ d ∈ ds, p.2 = nk d ∧ Dp K H (V.ref p.1) d) → ∃ es : List PyData, DpAll K H (L.map fun p => V.ref p.1) es ∧ L.map (·.2) = es.map nk ∧ ∀ d ∈ es, d ∈ ds
  | [], _ => ⟨[], .nil, rfl, fun d hd => (by cases hd)⟩
  | p :: L, h => by
    obtain ⟨es, q1, q2, q3⟩ := pick L fun p hp => h p (List.mem_cons_of_mem _ hp)
    obtain ⟨d, d1, d2, d3⟩ := h p (List.mem_cons_self ..)
    refine ⟨d :: es, .cons d3 q1, by rw [List.map_cons, List.map_cons, q2, d2], fun e he => ?_⟩
    rcases List.mem_cons.mp he with z | z
    · rw [z]
      exact d1
    · exact q3 e z
/-- set(xs), xs a list or a tuple of such tuples -/
def rSetN (K : PySem.W.Frag) (w : World) : List V → Hp → VK → Prop := fun vs H Q => ∃ (a : Addr) (xs : List V) (ds : List PyData), vs = [V.ref a] ∧ (SqL K H a xs ∨ SqT K H a xs) ∧ DpAll K H xs ds ∧ (∀ d ∈ ds, K8 d) ∧ ds.length < 64 ∧
  ∀ p L es, H p = none → DpAll K H (L.map fun q => V.ref q.1) es → L.map (·.2) = es.map nk → es.Nodup → (∀ d, d ∈ es ↔ d ∈ ds) → es.length ≤ ds.length → Q (.ref p) (upd H p (SetN w p L))
theorem cr_setN {w : World} (hc : X.calm = true) (hw : X.w = w) (hu : X.A.units + 65 < cLine) : CallR X (.type "set") (rSetN X.K w) := by
  subst hw
  intro pins s σ H vs us Q I r h
  obtain ⟨a, xs, ds, rfl, hs, hd, hk, hlen, q⟩ := h
  rw [Vals.ref1 r]
  have hn : H s.heap.objs.size = none := I.hok.fresh (Nat.le_refl _)
  obtain ⟨its, rv, pl⟩ : ∃ its : List Value, Vals xs its ∧ (s.heap.IsList a its.toArray ∨ s.heap.IsTuple a its.toArray) := by
    rcases hs with hs | hs
    · obtain ⟨its, rv, pl, _⟩ := I.list hs
      exact ⟨its, rv, .inl pl.isList⟩
    · obtain ⟨its, rv, pl, _⟩ := I.tuple hs
      exact ⟨its, rv, .inr pl⟩
  obtain ⟨ks, e1, e2, e3, e4⟩ := keys_of I hd rv hk
  have hkl : ks.length = ds.length := by
    have z := congrArg List.length e2
    rwa [List.length_map, List.length_map] at z
  refine call_setN (P := X.prog) (w := X.w) ks (I.ok.hd hc) pl (by simpa using e1) e3 (by omega) (by omega) fun h' tk L es ep t T sm k => ?_
  obtain ⟨fs, f1, f2, f3⟩ := pick L fun p hp => e4 p (List.mem_of_mem_take (sm.sub p hp))
  have inj : ∀ d ∈ ds, ∀ d' ∈ ds, nk d = nk d' → d = d' := fun d hd d' hd' e => nk_inj d d' (hk d hd).2.1 (hk d' hd').2.1 e
  refine ⟨.ref s.heap.objs.size, upd H s.heap.objs.size (SetN X.w s.heap.objs.size L), I.laid (t' := tk) k (Nat.le_refl _) (setN_ok T), rfl, q _ L fs hn f1 f2 ?_ (fun d => ⟨f3 d, fun hd => ?_⟩) ?_⟩
  · have z := T.one
    rw [f2] at z
    exact nodup_of nk z
  · have z : nk d ∈ ks.map (·.2) := by
      rw [e2]
      exact List.mem_map.mpr ⟨d, hd, rfl⟩
    obtain ⟨p, hp, ep⟩ := List.mem_map.mp z
    have z2 := sm.all p (by rw [List.take_length]; exact hp)
    rw [f2, ep] at z2
    obtain ⟨d', hd', e'⟩ := List.mem_map.mp z2
    rw [← inj d' (f3 d' hd') d hd e']
    exact hd'
  · have z := sm.len
    have z2 := congrArg List.length f2
    rw [List.length_map, List.length_map] at z2
    omega
theorem refs_vals : ∀ (L : List (Addr × NK)), Vals (L.map fun q => V.ref q.1) (L.map fun q => Value.ref q.1)
  | [] => .nil
  | _ :: L => .cons rfl (refs_vals L)
/-- sorted(a set of such tuples) -/
def rSortN (K : PySem.W.Frag) (w : World) : List V → Hp → VK → Prop := fun vs H Q => ∃ (a : Addr) (L : List (Addr × NK)) (ds : List PyData), vs = [V.ref a] ∧ H a = some (SetN w a L) ∧ DpAll K H (L.map fun q => V.ref q.1) ds ∧ L.map (·.2) = ds.map nk ∧ AllAlike ds ∧ (∀ d ∈ ds, K8 d) ∧ ds.length < 64 ∧
  ∀ (ys : List V) (fs : List PyData) (p : Addr), H p = none → fs.Perm ds → DpAll K H ys (fs.mergeSort So.dle) → Q (.ref p) (upd H p (.lst ys))
theorem cr_sortN {w : World} (hc : X.calm = true) (hw : X.w = w) (hu : X.A.units + 65 < cLine) : CallR X (.builtin "sorted") (rSortN X.K w) := by
  subst hw
  intro pins s σ H vs us Q I r h
  obtain ⟨a, L, ds, rfl, ha, hd, hn2, hal, hk, hlen, q⟩ := h
  obtain ⟨h0, es, ep, t, T0, k0⟩ := (I.hok a _ ha).1
  rw [Vals.ref1 r]
  have rl := refs_vals L
  have ea := So.each_of I hd rl
  have T : Ts X.w s.heap a L es ep t := T0.keep k0 fun p hp => by
    obtain ⟨ks, e1, e2, e3, e4⟩ := keys_of I hd rl hk
    have es1 : ks.map (·.1) = L.map (·.1) := by
      have z := congrArg (List.map fun v => match v with | Value.ref b => b | _ => 0) e1
      rw [List.map_map, List.map_map] at z
      exact z.symm
    have el : ks = L := pairs_same es1 (by rw [e2, hn2])
    rw [← el] at hp
    exact e3 p hp
  refine sorted_setN (P := X.prog) T (I.ok.hd hc) hu (ea.mono fun _ _ z => z.1) (ea.mono fun _ _ z => z.2) hal hk fun s' p out c fs k g o hp hg pf eo => ?_
  obtain ⟨ys, ry, dy⟩ := So.each_back eo
  have hl2 : ys.length ≤ sizeLine := by
    have z := eo.length
    rw [List.length_mergeSort, pf.length_eq] at z
    rw [ry.length, z, sizeLine_eq]
    omega
  have hn : H p = none := I.hok.fresh hp
  have J : Inv X pins σ (upd H p (.lst ys)) { s with heap := s'.heap, gens := s'.gens, drawn := s'.drawn, toks := s'.toks } :=
    I.call (ch := []) (Un.laid k hp hn) (I.hok.laid k hp ⟨hl2, out, c, ry, hg⟩) (by rw [g]; exact I.bare) (fun _ z => nomatch z)
  have e : s' = { s with heap := s'.heap, gens := s'.gens, drawn := s'.drawn, toks := s'.toks } := by
    cases s'
    cases s
    cases o
    rfl
  rw [e]
  exact ⟨.ref p, _, J, rfl, q ys fs p hn pf dy⟩
end
end Sd
/-! len(set of texts); data in a tuple of data; == and != of data within a block. -/
namespace Sl
open PySem PySem.Spec PyProof.Rows L2 Bx TL Dx
section
variable {X : Cx}
def rLenX (P : Program) (w : World) : List V → Hp → VK → Prop := fun vs H Q => ∃ (a : Addr) (l : List Str), vs = [V.ref a] ∧ H a = some (Sx.SetV P w a l) ∧ l.length < 4000 ∧ Q (.int l.length) H
theorem call_lenX : CallR X (.builtin "len") (rLenX X.prog X.w) := by
  intro pins s σ H vs us Q I r h
  obtain ⟨a, l, rfl, ha, hlen, q⟩ := h
  have R : Sx.SetX X.prog X.w s.heap a l := (I.hok a _ ha).1
  obtain ⟨⟨es, ep, t⟩, ho, F, nd, ri, hl⟩ := R
  rw [Vals.ref1 r]
  have hsz : es.size = l.length := F.sz
  exact call_len_set ho ⟨rfl, rfl, rfl⟩ rfl F.fit (by rw [hsz]; omega) ⟨.int l.length, H, I.tok _, ⟨s.toks + 1, by rw [hsz]⟩, q⟩
def rInT (K : PySem.W.Frag) : R2 := fun x y H Q => ∃ d ds, Dp K H x d ∧ Dp K H y (.tuple ds) ∧ SeqAt.shaped d = true ∧ SeqAt.shaped (.tuple ds) = true ∧ Q (.bl (ds.any fun z => PyData.eqv z d)) H
theorem op_inT {K : PySem.W.Frag} (hK : X.K = K) (hu : X.A.units + 65 < cLine) : OpR X (compareOp .In) (rInT K) := by
  subst hK
  intro pins s σ H x y v u Q I rx ry h
  obtain ⟨d, ds, hd, he, sd, se, q⟩ := h
  obtain ⟨as, r1⟩ := Dp.reads I d x v hd rx
  obtain ⟨bs, r2⟩ := Dp.reads I (.tuple ds) y u he ry
  exact SeqAt.in_tuple_reads r2 r1 (SeqAt.canLay_of_shaped se) (SeqAt.canLay_of_shaped sd) (room_in_shaped sd hu) ⟨.bl _, H, I, rfl, q⟩
theorem op_eqDK {K : PySem.W.Frag} (hK : X.K = K) (hu : X.A.units + 64 < cLine) : OpR X (compareOp .Eq) (rEqD K) := by
  subst hK
  exact op_eqD hu
theorem op_neDK {K : PySem.W.Frag} (hK : X.K = K) (hu : X.A.units + 64 < cLine) : OpR X (compareOp .NotEq) (rNeD K) := by
  subst hK
  exact op_neD hu
end
end Sl
/-! t.index(x), t a tuple without a dict of its own; within a block, too. -/
namespace TiX
open PySem PySem.Spec PyProof.Rows L2 Bx TL Dx Zx Ow
def tTix (to : TE) (t : TA) : TE := fun σ H Q => to σ H fun x H1 => ∃ (p : Addr) (ys : List Str), x = .ref p ∧ PlT H1 p (ys.map V.str) ∧ t σ H1 fun vs H2 => ∃ (z : Str) (j : Nat), vs = [.str z] ∧ PlT H2 p (ys.map V.str) ∧ ys[j]? = some z ∧ (∀ m, m < j → ys[m]? ≠ some z) ∧ Q (.int (j : Nat)) H2
variable {X : Cx} {o e : Expr} {es : List Expr} {to : TE} {t : TA} {apos cpos : Pos}
theorem pe_tix (ho : PE X o to) (ha : PA X (e :: es) t)
    (hbase : attributeBase o "index" X.env (eval o X.env) = eval o X.env := by rfl)
    (hfew : ((backTo cpos (starEach (e :: es) X.env)).all (fun x => !x.1) && (backToKw cpos (keywordEach [] X.env)).all (fun x => x.1.isSome)
      && decide ((e :: es).length + ([] : List Keyword).length + (if ([] : List Keyword).isEmpty then 0 else 1) < 30)) = true := by rfl)
    (hline : (apos.endLine == cpos.line) = true := by rfl) (hs : starEach (e :: es) X.env = (false, eval e X.env) :: starEach es X.env := by rfl) (hplain : (backTo cpos (starEach es X.env)).any (·.1) = false := by rfl) :
    PE X (.Call (.Attribute o "index" apos) (e :: es) [] cpos) (tTix to t) := by
  refine ⟨fun pins s σ H Q I h => ?_⟩
  refine wpAny_Call_method_late hbase hfew hline rfl (thn (ho.run pins s σ H _ I h) fun v s1 ⟨x, H1, I1, r1, p, ys, ex, pl, q1⟩ => ?_)
  subst ex
  cases r1
  obtain ⟨ob, hp, hd⟩ := pl
  obtain ⟨hg, hz, its, rv, o2, ho2, hc, n, hdat⟩ : ObjOk X.prog X.w H1 s1.heap p (.frz ob (.tup (ys.map V.str))) := I1.hok p _ hp
  rw [hg] at ho2
  obtain rfl := Option.some.inj ho2
  refine ⟨"tuple", "tuple.index", PySem.F.plainAttrs_tuple, PySem.F.slot_tuple_index, PySem.F.type_tuple_index, ⟨ob, hg, hc⟩, fun a ea => ?_, ?_⟩
  · cases ea
    exact ⟨ob, hg, hd⟩
  have hA := ha.run cpos pins s1 σ H1 _ I1 q1
  rw [hs] at hA ⊢
  refine Calls.callWith_builtin (by show (false || (backTo cpos (starEach es X.env)).any (·.1)) = false; rw [hplain] <;> rfl) (Calls.evalArgs_plain ?_)
  exact thn hA fun us s2 ⟨vs, H2, I2, r2, z, j, ev, pl2, hy, hno, q2⟩ => mt_tup_index pins s2 σ H2 (.ref p) vs _ us Q I2 rfl r2 ⟨p, ys, z, j, rfl, ev, pl2.sq, hy, hno, q2⟩
end TiX
/-! a dict in a list of dicts; the least of a list of data. -/
namespace Dl
open PySem PySem.Spec PyProof.Rows L2 PySem.SeqAt
open AutoSeq1 (wpAny_loadPart')
open MeetsSeq MeetsSeq2 MeetsSeq3 SeqRoads2
section
variable {pr : Program} {wo : World}
/-- the turns of `in` over a list, the comparisons told for this world alone -/
theorem turns (at_ : Addr) (vs : Array Value) (ct : Nat) (di : Option Addr) (so : Array (Option Value)) (y : Value) (f : Value → Bool) (m : Nat) :
    ∀ j : Nat, vs.size - j = m → MeetsIn pr wo (Builtin.«list.__contains__.loop» ⟨[.ref at_, y, rawInt j], []⟩)
      (fun B S t => t.heap.get? at_ = some ⟨.type "list", di, .seq vs ct, so⟩ ∧ (∀ z, z ∈ vs → EqIn pr wo B.in1 t z y (f z)) ∧ S (.ok (.ret (.bool ((vs.toList.drop j).any f)))) t) := by
  induction m with
  | zero =>
    rintro j hj B S ⟨th, tg, td, tt, to⟩ ⟨e1, e2, e3⟩
    wp_walk using wpAny_loadPart' e1
    rw [show vs.toList.drop j = [] by simp; omega] at e3
    rw [show vs[((j : Nat) : Int).toNat]? = none by simp; omega]
    wp_walk; exact e3
  | succ m rec_ =>
    rintro j hj B S ⟨th, tg, td, tt, to⟩ ⟨e1, e2, e3⟩
    wp_walk using wpAny_loadPart' e1
    have lt : j < vs.size := by omega
    rw [show vs.toList.drop j = vs[j] :: vs.toList.drop (j + 1) by simp [List.drop_eq_getElem_cons, lt], List.any_cons] at e3
    rw [show vs[((j : Nat) : Int).toNat]? = some vs[j] by simp [lt]]
    refine wpAny_bind (e2 _ (Array.getElem_mem lt) _ _ ?_)
    cases c : f vs[j] with
    | true => rw [c] at e3; wp_walk; exact e3
    | false =>
      rw [c] at e3
      have up : ((j : Int) + 1) = ((j + 1 : Nat) : Int) := by push_cast; rfl
      wp_walk
      rw [up]
      refine ⟨plainId_quiet plain_contains_loop _, codeAny_builtin entry_contains_loop ?_⟩
      rw [Around.under_plainId plain_contains_loop _]
      exact rec_ (j + 1) (by omega) B S _ ⟨e1, e2, by simpa using e3⟩
theorem whole (at_ : Addr) (vs : Array Value) (ct : Nat) (di : Option Addr) (so : Array (Option Value)) (y : Value) (f : Value → Bool) : MeetsIn pr wo (Builtin.«list.__contains__» ⟨[.ref at_, y], []⟩)
    (fun B S t => t.heap.get? at_ = some ⟨.type "list", di, .seq vs ct, so⟩ ∧ (∀ z, z ∈ vs → EqIn pr wo B.in1 t z y (f z)) ∧ S (.ok (.ret (.bool (vs.any f)))) t) := by
  rintro B S ⟨th, tg, td, tt, to⟩ ⟨e1, e2, e3⟩
  wp_walk using wpAny_loadPart' e1
  refine ⟨plainId_quiet plain_contains_loop _, codeAny_builtin entry_contains_loop ?_⟩
  rw [Around.under_plainId plain_contains_loop _]
  exact turns at_ vs ct di so y f _ 0 rfl B S _ ⟨e1, e2, by simpa using e3⟩
variable {A : Around} {E : Value → Shared → Prop} {s : Shared}
theorem notIn_list {l : Addr} {vs : Array Value} {y : Value} {Q : Value → Shared → Prop} (f : Value → Bool) (hl : s.heap.IsList l vs) (he : ∀ z, z ∈ vs → EqIn pr wo A.in1 s z y (f z)) (h : Q (.bool (!vs.any f)) s) : wpAny (model pr wo) A (compareOp .NotIn y (.ref l)) Q E s := by
  obtain ⟨⟨cl, di, da, so⟩, ho, hc, ct, hd⟩ := id hl
  simp only at hc hd
  subst hc hd
  have hT : s.TypeIs (.ref l) "list" := ⟨_, ho, rfl⟩
  show wpAny _ A (do return .bool (!(← contains (.ref l) y))) Q E s
  refine wpAny_bind (wpAny_contains_slot hT F.slot_list_contains (wpAny_mono (call_meetsIn F.slot_list_contains hT F.entry_list_contains (F.args_list_contains_2 _ _) (whole l vs ct di so y f) (Q := fun v s' => ∃ b, v = .bool b ∧ Q (.bool (!b)) s') ⟨ho, he, _, rfl, h⟩) (fun v s' hv => ?_) fun _ _ e => e))
  obtain ⟨b, rfl, hq⟩ := hv
  exact wpAny_truthy_bool (wpAny_pure hq)
end
/-- dicts with ints, compared -/
def eqK (ks ls : List (Key × V)) : Bool := ks.length == ls.length && ks.all fun p => decide (valV ls p.1 = some p.2)
structure IntsK (ks : List (Key × V)) : Prop where
  i : ∀ p ∈ ks, ∃ n : Int, p.2 = .int n
  nd : (ks.map (·.1)).Nodup
theorem val_mem {κ : Type} [DecidableEq κ] {ks : List (κ × V)} {k : κ} {v : V} (h : valV ks k = some v) : (k, v) ∈ ks := by
  induction ks with
  | nil => cases h
  | cons p r ih =>
    by_cases c : p.1 = k
    · rw [valV_pos c] at h
      cases h
      rw [← c]
      exact List.mem_cons_self
    · rw [valV_neg c] at h
      exact List.mem_cons_of_mem _ (ih h)
theorem pair_mem {κ : Type} {ks : List (κ × V)} {va : List (κ × Value)} (r : KV ks va) {k : κ} {v : Value} (h : (k, v) ∈ va) : ∃ x, (k, x) ∈ ks ∧ RelV x v := by
  unfold KV at r
  induction r with
  | nil => cases h
  | @cons p q ps qs hpq t ih =>
    rcases List.mem_cons.mp h with e | h
    · subst e
      obtain ⟨p1, p2⟩ := p
      obtain ⟨e1, e2⟩ := hpq
      have e3 : p1 = k := e1
      subst e3
      exact ⟨p2, List.mem_cons_self, e2⟩
    · obtain ⟨x, hx, hr⟩ := ih h
      exact ⟨x, List.mem_cons_of_mem _ hx, hr⟩
theorem all_eq {ks ls : List (Key × V)} {vb : List (Key × Value)} (rb : KV ls vb) (nd : ∀ p ∈ ks, valV ks p.1 = some p.2) : ∀ {xs : List (Key × V)} {va : List (Key × Value)}, KV xs va → (∀ p ∈ xs, p ∈ ks) →
    (va.all fun p => (valueAt vb p.1).isSome && decide (valV ks p.1 = valV ls p.1)) = xs.all fun p => decide (valV ls p.1 = some p.2) := by
  intro xs va r
  unfold KV at r
  induction r with
  | nil => intro _; rfl
  | @cons p q ps qs hpq t ih =>
    intro hm
    rw [List.all_cons, List.all_cons, ih fun x hx => hm x (List.mem_cons_of_mem _ hx)]
    congr 1
    have e1 : p.1 = q.1 := hpq.1
    have e2 := nd p (hm p List.mem_cons_self)
    have e3 := rb.val p.1
    rw [← e1, e2]
    cases hl : valV ls p.1 with
    | none =>
      rw [hl] at e3
      rw [RelO.none_of e3]
      simp
    | some y =>
      rw [hl] at e3
      obtain ⟨u, hu, _⟩ := RelO.some_of e3
      rw [hu]
      simp [eq_comm]
section
variable {X : Cx} {pins : List (Addr × Obj)} {σ : L2.St} {H : Hp} {s : Shared}
theorem dec_int (i j : Int) : decide (some (V.int i) = some (V.int j)) = (i == j) := by
  by_cases h : i = j
  · rw [h]; simp
  · have h2 : ¬ some (V.int i) = some (V.int j) := fun e => h (V.int.inj (Option.some.inj e))
    rw [decide_eq_false h2]
    simp [h]
theorem tree {a b : Addr} {ks ls : List (Key × V)} (I : Inv X pins σ H s) (ha : H a = some (.dK ks)) (hb : H b = some (.dK ls)) (ne : a ≠ b) (ia : IntsK ks) (ib : IntsK ls) : PySem.W.EqTree X.prog X.w s 1 (.ref a) (.ref b) (eqK ks ls) := by
  obtain ⟨_, ya, va, ra, da⟩ := (show ObjOk X.prog X.w H s.heap a (.dK ks) from I.hok a _ ha)
  obtain ⟨_, yb, vb, rb, db⟩ := (show ObjOk X.prog X.w H s.heap b (.dK ls) from I.hok b _ hb)
  have nd := val_nodup ia.nd
  have t := PySem.W.EqTree.dicts (n := 0) (e := fun k => decide (valV ks k = valV ls k)) ne ya yb da db fun k v y hm hv => by
    obtain ⟨x, hx, rx⟩ := pair_mem ra hm
    obtain ⟨i, ei⟩ := ia.i _ hx
    have ei' : x = .int i := ei
    subst ei'
    obtain ⟨tk, rfl⟩ := rx
    have e2 := rb.val k
    rw [hv] at e2
    cases hl : valV ls k with
    | none => rw [hl] at e2; exact e2.elim
    | some z =>
      rw [hl] at e2
      obtain ⟨j, ej⟩ := ib.i _ (val_mem hl)
      have ej' : z = .int j := ej
      subst ej'
      obtain ⟨tk2, ey⟩ := e2
      have en : valV ks k = some (V.int i) := nd _ hx
      rw [ey, en, dec_int]
      exact .leaf fun A _ => EqAt.int_int i tk j tk2
  rw [all_eq rb nd ra fun p hp => hp, ← ra.length, ← rb.length] at t
  exact t
def rNotInDk (K : PySem.W.Frag) : R2 := fun x y H Q => ∃ (b l : Addr) (kv : List (Key × V)) (L : List (Addr × List (Key × V))), x = .ref b ∧ y = .ref l ∧ H b = some (.dK kv) ∧ SqL K H l (L.map fun p => V.ref p.1) ∧ (∀ p ∈ L, H p.1 = some (.dK p.2) ∧ p.1 ≠ b ∧ IntsK p.2) ∧ IntsK kv ∧ Q (.bl (!L.any fun p => eqK p.2 kv)) H
def ans (H : Hp) (kv : List (Key × V)) : Value → Bool
  | .ref a => match H a with
    | some (.dK ks) => eqK ks kv
    | _ => false
  | _ => false
theorem any_ans {kv : List (Key × V)} : ∀ {L : List (Addr × List (Key × V))} {its : List Value}, Vals (L.map fun p => V.ref p.1) its → (∀ p ∈ L, H p.1 = some (.dK p.2)) → its.any (ans H kv) = L.any fun p => eqK p.2 kv
  | [], its, r, _ => by cases r; rfl
  | p :: L, its, r, h => by
    cases r with
    | @cons _ u _ us r1 rt =>
      cases r1
      rw [List.any_cons, List.any_cons, any_ans rt fun q hq => h q (List.mem_cons_of_mem _ hq)]
      congr 1
      show (match H p.1 with | some (.dK ks) => eqK ks kv | _ => false) = _
      rw [h p List.mem_cons_self]
theorem vals_mem : ∀ {L : List (Addr × List (Key × V))} {its : List Value}, Vals (L.map fun p => V.ref p.1) its → ∀ z ∈ its, ∃ p ∈ L, z = Value.ref p.1
  | [], its, r, z, hz => by cases r; cases hz
  | p :: L, its, r, z, hz => by
    cases r with
    | @cons _ u _ us r1 rt =>
      cases r1
      rcases List.mem_cons.mp hz with e | hz
      · exact ⟨p, List.mem_cons_self, e⟩
      · obtain ⟨q, hq, e⟩ := vals_mem rt z hz
        exact ⟨q, List.mem_cons_of_mem _ hq, e⟩
theorem op_notInDk (hu : X.A.units + 2 < cLine) : OpR X (compareOp .NotIn) (rNotInDk X.K) := by
  intro pins s σ H x y v u Q I rx ry h
  obtain ⟨b, l, kv, L, rfl, rfl, hb, hl, hL, ik, q⟩ := h
  cases rx
  cases ry
  obtain ⟨its, rv, pl, _⟩ := I.list hl
  refine notIn_list (ans H kv) pl.isList (fun z hz => ?_) (fin_bl I q ?_)
  · obtain ⟨p, hp, rfl⟩ := vals_mem rv z (by simpa using hz)
    obtain ⟨h1, h2, h3⟩ := hL p hp
    have e : ans H kv (.ref p.1) = eqK p.2 kv := by
      show (match H p.1 with | some (.dK ks) => eqK ks kv | _ => false) = _
      rw [h1]
    rw [e]
    exact (tree I h1 hb h2 h3 ik).at X.A.in1 (by show X.A.units + 1 + 1 < cLine; omega)
  · rw [← any_ans rv fun p hp => (hL p hp).1, ← Array.any_toList]
/-- min of a list of data that are alike -/
def rMinD (K : PySem.W.Frag) : List V → Hp → VK → Prop := fun vs H Q => ∃ (a : Addr) (us : List V) (d : PyData) (ds : List PyData), vs = [V.ref a] ∧ SqL K H a us ∧ DpAll K H us (d :: ds) ∧ PySem.W.AlikeAll (d :: ds) ∧ PyData.depthAll (d :: ds) ≤ 60 ∧ ∀ v, v ∈ us → Dp K H v (PySem.W.minD d ds) → Q v H
theorem zip_eq : ∀ {a b : List (PyData × PyData)}, a.map (·.1) = b.map (·.1) → a.map (·.2) = b.map (·.2) → a = b
  | [], [], _, _ => rfl
  | [], _ :: _, h, _ => by cases h
  | _ :: _, [], h, _ => by cases h
  | (p, q) :: a, (p', q') :: b, h, k => by
    rw [List.map_cons, List.map_cons] at h k
    injection h with h1 h2
    injection k with k1 k2
    have e1 : p = p' := h1
    have e2 : q = q' := k1
    rw [e1, e2, zip_eq h2 k2]
theorem seq_inj {o : Obj} {vs us : Array Value} {n m : Nat} (a : o.data = .seq vs n) (b : o.data = .seq us m) : vs = us := by
  rw [a] at b
  injection b
theorem dct_inj {o : Obj} {vs us : Array DictEntry} {n m : Nat} (a : o.data = .dict vs n) (b : o.data = .dict us m) : vs = us := by
  rw [a] at b
  injection b
theorem cls_ne {o : Obj} {S T : String} (a : o.cls = .type S) (b : o.cls = .type T) (h : S ≠ T) : False := h (Value.type.inj (a.symm.trans b))
mutual
theorem rdet {h : Heap} : ∀ {v : Value} {d d' : PyData} {as bs : List Addr}, Reads h v d as → Reads h v d' bs → d = d'
  | _, _, _, _, _, .none, .none => rfl
  | _, _, _, _, _, .bool _, .bool _ => rfl
  | _, _, _, _, _, .int _ _, .int _ _ => rfl
  | _, _, _, _, _, .str _ _, .str _ _ => rfl
  | _, _, _, _, _, .list a1 a2 a3 a4, .list b1 b2 b3 b4 => by
    cases Option.some.inj (a1.symm.trans b1)
    cases seq_inj a3 b3
    rw [rdetAll a4 b4]
  | _, _, _, _, _, .list a1 a2 _ _, .tuple b1 b2 _ _ => by
    cases Option.some.inj (a1.symm.trans b1)
    exact (cls_ne a2 b2 (by decide)).elim
  | _, _, _, _, _, .list a1 a2 _ _, .dict b1 b2 _ _ _ => by
    cases Option.some.inj (a1.symm.trans b1)
    exact (cls_ne a2 b2 (by decide)).elim
  | _, _, _, _, _, .tuple a1 a2 _ _, .list b1 b2 _ _ => by
    cases Option.some.inj (a1.symm.trans b1)
    exact (cls_ne a2 b2 (by decide)).elim
  | _, _, _, _, _, .tuple a1 a2 a3 a4, .tuple b1 b2 b3 b4 => by
    cases Option.some.inj (a1.symm.trans b1)
    cases seq_inj a3 b3
    rw [rdetAll a4 b4]
  | _, _, _, _, _, .tuple a1 a2 _ _, .dict b1 b2 _ _ _ => by
    cases Option.some.inj (a1.symm.trans b1)
    exact (cls_ne a2 b2 (by decide)).elim
  | _, _, _, _, _, .dict a1 a2 _ _ _, .list b1 b2 _ _ => by
    cases Option.some.inj (a1.symm.trans b1)
    exact (cls_ne a2 b2 (by decide)).elim
  | _, _, _, _, _, .dict a1 a2 _ _ _, .tuple b1 b2 _ _ => by
    cases Option.some.inj (a1.symm.trans b1)
    exact (cls_ne a2 b2 (by decide)).elim
  | _, _, _, _, _, .dict a1 a2 a3 a4 a5, .dict b1 b2 b3 b4 b5 => by
    cases Option.some.inj (a1.symm.trans b1)
    cases dct_inj a3 b3
    rw [zip_eq (rdetAll a4 b4) (rdetAll a5 b5)]
theorem rdetAll {h : Heap} : ∀ {vs : List Value} {ds ds' : List PyData} {as bs : List Addr}, ReadsAll h vs ds as → ReadsAll h vs ds' bs → ds = ds'
  | _, _, _, _, _, .nil, .nil => rfl
  | _, _, _, _, _, .cons a b, .cons c e => by rw [rdet a c, rdetAll b e]
end
theorem da_mem {K : PySem.W.Frag} {H : Hp} : ∀ {us : List V} {ds : List PyData} {i : Nat} {v : V}, DpAll K H us ds → us[i]? = some v → ∃ d, ds[i]? = some d ∧ Dp K H v d
  | _, _, _, _, .nil, h => by simp at h
  | _, _, 0, _, .cons a _, h => by
    cases h
    exact ⟨_, rfl, a⟩
  | _, _, i + 1, _, .cons _ b, h => da_mem (i := i) b h
theorem cr_minD (hc : X.calm = true) (hu : X.A.units + 64 < cLine) : CallR X (.builtin "min") (rMinD X.K) := by
  intro pins s σ H vs us Q I r h
  obtain ⟨a, xs, d, ds, rfl, hs, hd, ha, h6, q⟩ := h
  obtain ⟨its, rv, pl, _⟩ := I.list hs
  rw [Vals.ref1 r]
  obtain ⟨as, r1⟩ := Dp.readsAll I (d :: ds) xs its hd rv
  refine PySem.W.min_list_data (I.ok.hd hc) pl.isList (by simpa using r1) ha (by omega) fun i v h' tk bs hv hr hk => ?_
  have hi : its[i]? = some v := by simpa using hv
  have li : i < xs.length := by rw [rv.length]; exact (List.getElem?_eq_some_iff.mp hi).1
  have ex := List.getElem?_eq_getElem li
  obtain ⟨u, hu2, ru⟩ := rv.get ex
  rw [hi] at hu2
  cases hu2
  obtain ⟨d0, _, dv⟩ := da_mem hd ex
  obtain ⟨cs, rd⟩ := Dp.reads I d0 _ _ dv ru
  have e := rdet (PySem.W.reads_keeps hk rd) hr
  exact ⟨_, H, I.kept hk, ru, q _ (List.mem_of_getElem? ex) (e ▸ dv)⟩
end
end Dl
namespace Go
open PySem PySem.Spec PyProof.Rows L2 Bx TL Dx Zx Ow
/-! ### steps of the heap -/
theorem al {H H2 : Hp} {p : Addr} {o : HO} (np : H p = none) (hu : upd H p o = H2) : Same H H2 ∧ H2 p = some o := by
  subst hu
  exact ⟨same_new np, upd_same⟩
theorem get {H H' : Hp} {a : Addr} {o : HO} (s : Same H H') (h : H a = some o) : H' a = some o := s _ _ h
theorem getB {H H' : Hp} {a b : Addr} {o : HO} (s : SameBut b H H') (n : a ≠ b) (h : H a = some o) : H' a = some o := s _ _ n h
theorem srcS {H H' : Hp} {a : Addr} (t : Same H H') (s : Src H a) : Src H' a := src_same s t
theorem ne_dk {H : Hp} {a s : Addr} {kvs : List (Key × V)} (hs : Src H s) (h : H a = some (.dK kvs)) : a ≠ s := fun e => by
  obtain ⟨n, c, hs⟩ := hs
  rw [e, hs] at h
  cases h
theorem dkB {H H' : Hp} {a s : Addr} {kvs : List (Key × V)} (hs : Src H s) (b : SameBut s H H') (h : H a = some (.dK kvs)) : H' a = some (.dK kvs) := b _ _ (ne_dk hs h) h
theorem insB {H H' : Hp} {a s C d : Addr} {fs : List (Str × V)} (hs : Src H s) (b : SameBut s H H') (h : H a = some (.ins C d fs)) : H' a = some (.ins C d fs) := b _ _ (fun e => by
  obtain ⟨n, c, hs⟩ := hs
  rw [e, hs] at h
  cases h) h
theorem tupB {K : PySem.W.Frag} {H H' : Hp} {s a : Addr} {xs : List V} (hs : Src H s) (sb : SameBut s H H') (h : SqT K H a xs) : SqT K H' a xs := by
  obtain ⟨n, c, hs⟩ := hs
  rcases h with (h | ⟨o, h⟩) | h
  · exact .inl (.inl (sb _ _ (fun e => by rw [e, hs] at h; cases h) h))
  · exact .inl (.inr ⟨o, sb _ _ (fun e => by rw [e, hs] at h; cases h) h⟩)
  · exact .inr h
theorem pltB {H H' : Hp} {s a : Addr} {xs : List V} (hs : Src H s) (sb : SameBut s H H') (h : PlT H a xs) : PlT H' a xs := by
  obtain ⟨n, c, hs⟩ := hs
  obtain ⟨o, h, d⟩ := h
  exact ⟨o, sb _ _ (fun e => by rw [e, hs] at h; cases h) h, d⟩
/-! ### tuples stay -/
mutual
def tupD : PyData → Bool
  | .str _ => true
  | .int _ => true
  | .bool _ => true
  | .none => true
  | .tuple ds => tupAll ds
  | _ => false
def tupAll : List PyData → Bool
  | [] => true
  | d :: ds => tupD d && tupAll ds
end
theorem tupAll_map {α : Type} {f : α → PyData} (h : ∀ x, tupD (f x) = true) : ∀ l : List α, tupAll (l.map f) = true
  | [] => rfl
  | x :: l => by
    show (tupD (f x) && tupAll (l.map f)) = true
    rw [h x, tupAll_map h l]
    rfl
def Tk (K : PySem.W.Frag) (H H' : Hp) : Prop := ∀ a xs, SqT K H a xs → SqT K H' a xs
theorem tk_same {K : PySem.W.Frag} {H H' : Hp} (s : Same H H') : Tk K H H' := fun _ _ h => Bx.Same.tup s h
theorem tk_but {K : PySem.W.Frag} {H H' : Hp} {s : Addr} (hs : Src H s) (sb : SameBut s H H') : Tk K H H' := fun _ _ h => tupB hs sb h
theorem Tk.trans {K : PySem.W.Frag} {H H1 H2 : Hp} (a : Tk K H H1) (b : Tk K H1 H2) : Tk K H H2 := fun _ _ h => b _ _ (a _ _ h)
theorem tk_lst {K : PySem.W.Frag} {H : Hp} {p : Addr} {ys : List V} {o : HO} (hp : H p = some (.lst ys)) : Tk K H (upd H p o) := fun a xs h => by
  rcases h with (h | ⟨u, h⟩) | h
  · exact .inl (.inl (by rw [upd_ne fun z => by rw [z, hp] at h; cases h]; exact h))
  · exact .inl (.inr ⟨u, by rw [upd_ne fun z => by rw [z, hp] at h; cases h]; exact h⟩)
  · exact .inr h
theorem tk_dk {K : PySem.W.Frag} {H : Hp} {p : Addr} {kvs : List (Key × V)} {o : HO} (hp : H p = some (.dK kvs)) : Tk K H (upd H p o) := fun a xs h => by
  rcases h with (h | ⟨u, h⟩) | h
  · exact .inl (.inl (by rw [upd_ne fun z => by rw [z, hp] at h; cases h]; exact h))
  · exact .inl (.inr ⟨u, by rw [upd_ne fun z => by rw [z, hp] at h; cases h]; exact h⟩)
  · exact .inr h
mutual
theorem dp_tk {K : PySem.W.Frag} {H H' : Hp} (tk : Tk K H H') : ∀ (d : PyData) (v : V), tupD d = true → Dp K H v d → Dp K H' v d
  | .str _, _, _, h => by
    cases h
    exact .str _
  | .int _, _, _, h => by
    cases h
    exact .int _
  | .tuple ds, _, e, h => by
    cases h with
    | tup hs ha => exact .tup (tk _ _ hs) (da_tk tk ds _ e ha)
  | .none, _, e, h => by
    cases h
    exact .non
  | .bool _, _, e, h => by
    cases h
    exact .bl _
  | .list _, _, e, _ => by cases e
  | .dict _, _, e, _ => by cases e
theorem da_tk {K : PySem.W.Frag} {H H' : Hp} (tk : Tk K H H') : ∀ (ds : List PyData) (vs : List V), tupAll ds = true → DpAll K H vs ds → DpAll K H' vs ds
  | [], _, _, h => by
    cases h
    exact .nil
  | d :: ds, _, e, h => by
    have e2 : (tupD d && tupAll ds) = true := e
    rw [Bool.and_eq_true] at e2
    cases h with
    | cons h1 h2 => exact .cons (dp_tk tk d _ e2.1 h1) (da_tk tk ds _ e2.2 h2)
end
theorem dpB {K : PySem.W.Frag} {H H' : Hp} {s : Addr} {v : V} {d : PyData} (hs : Src H s) (sb : SameBut s H H') (t : tupD d = true) (h : Dp K H v d) : Dp K H' v d := dp_tk (tk_but hs sb) d v t h
theorem daB {K : PySem.W.Frag} {H H' : Hp} {s : Addr} {vs : List V} {ds : List PyData} (hs : Src H s) (sb : SameBut s H H') (t : tupAll ds = true) (h : DpAll K H vs ds) : DpAll K H' vs ds := da_tk (tk_but hs sb) ds vs t h
/-- a list of tuples' data grows -/
theorem da_put {K : PySem.W.Frag} {H : Hp} {D : Addr} {us : List V} {v : V} {ds : List PyData} {d : PyData} (hD : H D = some (.lst us)) (t : tupAll ds = true) (t2 : tupD d = true) (h : DpAll K H us ds) (h2 : Dp K H v d) : DpAll K (upd H D (.lst (us ++ [v]))) (us ++ [v]) (ds ++ [d]) :=
  da_app (da_tk (tk_lst hD) ds us t h) (da_one (dp_tk (tk_lst hD) d v t2 h2))
/-! ### at an index -/
theorem at_mapV {α : Type} {f : α → V} {l : List α} {i : Nat} {x : α} (h : l[i]? = some x) : atI (l.map f) (i : Int) = some (f x) := atI_nat (by rw [List.getElem?_map, h]; rfl)
theorem at_mapZ {α : Type} {f : α → V} {l : List α} {i : Nat} {x : α} (h : l[i]? = some x) : atI (l.map f) (0 + (i : Int)) = some (f x) := by
  rw [Int.zero_add]
  exact at_mapV h
theorem at_nat0 {l : List V} {i : Nat} {x : V} (h : l[i]? = some x) : atI l (0 + (i : Int)) = some x := by
  rw [Int.zero_add]
  exact atI_nat h
theorem nd_take {α : Type} {l : List α} (nd : l.Nodup) {i : Nat} {c : α} (h : l[i]? = some c) : c ∉ l.take i := by
  intro m
  obtain ⟨j, hj⟩ := List.mem_iff_getElem?.mp m
  rw [List.getElem?_take] at hj
  split at hj
  · obtain ⟨h1, e1⟩ := List.getElem?_eq_some_iff.mp h
    obtain ⟨h2, e2⟩ := List.getElem?_eq_some_iff.mp hj
    have := (List.getElem_inj nd).mp (e1.trans e2.symm)
    omega
  · cases hj
/-! ### a tuple that is written, without a dict of its own -/
def tTupF (t : TA) : TE := fun σ H Q => t σ H fun xs H1 => xs.length ≤ sizeLine ∧ ∀ l o, H1 l = none → o.dict = none → Q (.ref l) (upd H1 l (.frz o (.tup xs)))
section
variable {X : Cx} {es : List Expr} {t : TA} {pos : Pos}
theorem pe_tupF {x1} (h : PA X es t) : PE X (.Tuple es x1 pos) (tTupF t) := by
  refine ⟨fun pins s σ H Q I hq => ?_⟩
  refine wpAny_Tuple_spliced (thn (h.run pos pins s σ H _ I hq) fun us s1 ⟨xs, H1, I1, r, z, q⟩ => ⟨by rw [← r.length]; exact z, ?_⟩)
  have hf : H1 s1.heap.objs.size = none := I1.hok.fresh (Nat.le_refl _)
  let o : Obj := { cls := .type "tuple", data := .seq us.toArray }
  refine ⟨.ref s1.heap.objs.size, upd H1 s1.heap.objs.size (.frz o (.tup xs)), I1.laid (t' := s1.toks) (fun b u e => Heap.get?_push_of_some _ e) (Nat.le_refl _) ?_, rfl, q _ o hf rfl⟩
  exact ⟨Heap.get?_push_size _ rfl, z, us, r, ⟨_, Heap.get?_push_size _ rfl, rfl, _, rfl⟩⟩
end
theorem alF {H H2 : Hp} {p : Addr} {o : Obj} {xs : List V} (np : H p = none) (od : o.dict = none) (hu : upd H p (.frz o (.tup xs)) = H2) : Same H H2 ∧ PlT H2 p xs := by
  subst hu
  exact ⟨same_new np, o, upd_same, od⟩
/-! ### comprehensions that give data -/
section
variable {J : It} {n : Nat} {G : Hp → Prop} {Y : Nat → Hp → V → Hp → Prop}
theorem lc_fil (w : Walk J n G Y) {α : Type} (K : PySem.W.Frag) (ls : List α) (p : α → Bool) (f : α → PyData) {g : TG} {tt : TT} {te : TE} {vs : List Nat} {σ : L2.St} {H1 : Hp} {D : Addr} {Qd : Hp → Prop} (hl : ls.length = n) (hn : n < 100000) (td : ∀ a, tupD (f a) = true) (nD : H1 D = none) (hG : ∀ H', Same H1 H' → G H') (hY : ∀ i H x H', Y i H x H' → Same H H')
    (hs : ∀ i a x H H', ls[i]? = some a → Same H1 H → Y i H x H' → ∀ (Z : V → Hp → Prop) (Z' : Hp → Prop), (∀ y H4, p a = true → Same H' H4 → Dp K H4 y (f a) → Z y H4) → (∀ H4, p a = false → Same H' H4 → Z' H4) → g x (wipe σ vs) H' fun σ2 H2 => wipe σ2 vs = wipe σ vs ∧ tt σ2 H2 fun b H3 => if b = true then te σ2 H3 Z else Z' H3)
    (hd : ∀ H us, Same H1 H → H D = some (.lst us) → DpAll K H us ((ls.filter p).map f) → Qd H) :
    ∃ W : Nat → Nat → Hp → Prop, (∃ m, W 0 m (upd H1 D (.lst []))) ∧ ∀ i m H, W i m H →
      (J.stop i H ∧ Qd H) ∨ (J.go i H ∧ ∃ Nx : Hp → Prop, (∀ H', Nx H' → ∃ m', m' < m ∧ W (i + 1) m' H') ∧ ∀ x H', J.yld i H x H' → g x (wipe σ vs) H' fun σ2 H2 => wipe σ2 vs = wipe σ vs ∧ tt σ2 H2 fun b H3 =>
        if b = true then te σ2 H3 fun y H4 => ∃ acc, H4 D = some (.lst acc) ∧ acc.length < sizeLine ∧ Nx (upd H4 D (.lst (acc ++ [y]))) else Nx H3) := by
  refine lc_it w (fun i H' => Same H1 H' ∧ ∃ us, H' D = some (.lst us) ∧ DpAll K H' us (((ls.take i).filter p).map f)) ⟨same_new nD, [], upd_same, by rw [List.take_zero]; exact .nil⟩ (fun i H' _ h => hG _ h.1) ?_ ?_
  · rintro i x H H' hi ⟨s, us, hM, hda⟩ hy
    have ha := List.getElem?_eq_getElem (show i < ls.length by omega)
    have tk1 : (ls.take (i + 1)).filter p = (ls.take i).filter p ++ if p (ls[i]'(by omega)) = true then [ls[i]'(by omega)] else [] := by
      rw [List.take_add_one, ha, List.filter_append]
      congr 1
      by_cases c : p (ls[i]'(by omega)) = true <;> simp [List.filter, c]
    have sy := hY _ _ _ _ hy
    refine hs i _ x H H' ha s hy _ _ (fun y H4 pa s4 dy => ?_) (fun H4 pa s4 => ?_)
    · have s44 := sy.trans s4
      have hM4 := s44 _ _ hM
      have ul : us.length ≤ i := by
        rw [da_len hda, List.length_map]
        exact Nat.le_trans (List.length_filter_le _ _) (List.length_take_le _ _)
      refine ⟨us, hM4, szl (by omega), same_at nD (s.trans s44), us ++ [y], upd_same, ?_⟩
      rw [tk1, if_pos pa, List.map_append]
      exact da_put hM4 (tupAll_map td _) (td _) (dpAll_same s44 hda) dy
    · have s44 := sy.trans s4
      refine ⟨s.trans s44, us, s44 _ _ hM, ?_⟩
      rw [tk1, if_neg (by rw [pa]; decide), List.append_nil]
      exact dpAll_same s44 hda
  · rintro H ⟨s, us, hM, hda⟩
    rw [← hl, List.take_length] at hda
    exact hd H us s hM hda
theorem lc_map (w : Walk J n G Y) {α : Type} (K : PySem.W.Frag) (ls : List α) (f : α → PyData) {g : TG} {te : TE} {vs : List Nat} {σ : L2.St} {H1 : Hp} {D : Addr} {Qd : Hp → Prop} (hl : ls.length = n) (hn : n < 100000) (td : ∀ a, tupD (f a) = true) (nD : H1 D = none) (hG : ∀ H', Same H1 H' → G H') (hY : ∀ i H x H', Y i H x H' → Same H H')
    (hs : ∀ i a x H H', ls[i]? = some a → Same H1 H → Y i H x H' → ∀ (Z : V → Hp → Prop), (∀ y H4, Same H' H4 → Dp K H4 y (f a) → Z y H4) → g x (wipe σ vs) H' fun σ2 H2 => wipe σ2 vs = wipe σ vs ∧ te σ2 H2 Z)
    (hd : ∀ H us, Same H1 H → H D = some (.lst us) → DpAll K H us (ls.map f) → Qd H) :
    ∃ W : Nat → Nat → Hp → Prop, (∃ m, W 0 m (upd H1 D (.lst []))) ∧ ∀ i m H, W i m H →
      (J.stop i H ∧ Qd H) ∨ (J.go i H ∧ ∃ Nx : Hp → Prop, (∀ H', Nx H' → ∃ m', m' < m ∧ W (i + 1) m' H') ∧ ∀ x H', J.yld i H x H' → g x (wipe σ vs) H' fun σ2 H2 => wipe σ2 vs = wipe σ vs ∧ tYes σ2 H2 fun b H3 =>
        if b = true then te σ2 H3 fun y H4 => ∃ acc, H4 D = some (.lst acc) ∧ acc.length < sizeLine ∧ Nx (upd H4 D (.lst (acc ++ [y]))) else Nx H3) := by
  refine lc_fil w K ls (fun _ => true) f hl hn td nD hG hY (fun i a x H H' ha s hy Z Z' hZ _ => ?_) (fun H us s hM hda => ?_)
  · exact hs i a x H H' ha s hy Z fun y H4 => hZ y H4 rfl
  · rw [List.filter_eq_self.mpr fun _ _ => rfl] at hda
    exact hd H us s hM hda
end
theorem yat {xs : List V} : ∀ i H x H', YAt xs i H x H' → Same H H' := fun _ _ _ _ h => by rw [h.1]; exact Same.refl _
theorem yfn {f : Nat → V} : ∀ i H x H', YFn f i H x H' → Same H H' := fun _ _ _ _ h => by rw [h.1]; exact Same.refl _
/-! ### lists of flat data -/
theorem da_intV {K : PySem.W.Frag} {H : Hp} : ∀ {l : List Int} {us : List V}, DpAll K H us (l.map PyData.int) → us = l.map V.int
  | [], _, h => by cases h; rfl
  | _ :: l, _, h => by
    cases h with
    | cons h1 h2 => rw [da_intV h2, dp_int h1]; rfl
theorem da_strV {K : PySem.W.Frag} {H : Hp} : ∀ {l : List Str} {us : List V}, DpAll K H us (l.map PyData.str) → us = l.map V.str
  | [], _, h => by cases h; rfl
  | _ :: l, _, h => by
    cases h with
    | cons h1 h2 => rw [da_strV h2, dp_str h1]; rfl
theorem da_blV {K : PySem.W.Frag} {H : Hp} : ∀ {l : List Bool} {us : List V}, DpAll K H us (l.map PyData.bool) → us = l.map V.bl
  | [], _, h => by cases h; rfl
  | _ :: l, _, h => by
    cases h with
    | cons h1 h2 => cases h1; rw [da_blV h2]; rfl
end Go
namespace Go
open PySem PySem.Spec PyProof.Rows L2 Bx TL Dx Zx Ow
/-! ### lists of related values -/
inductive All2 {α : Type} (R : V → α → Prop) : List V → List α → Prop
  | nil : All2 R [] []
  | cons {v : V} {a : α} {vs : List V} {as : List α} : R v a → All2 R vs as → All2 R (v :: vs) (a :: as)
section
variable {α : Type} {R S : V → α → Prop}
theorem All2.len {vs : List V} {as : List α} (h : All2 R vs as) : vs.length = as.length := by
  induction h with
  | nil => rfl
  | cons _ _ ih => rw [List.length_cons, List.length_cons, ih]
theorem All2.mono (k : ∀ v a, R v a → S v a) {vs : List V} {as : List α} (h : All2 R vs as) : All2 S vs as := by
  induction h with
  | nil => exact .nil
  | cons h _ ih => exact .cons (k _ _ h) ih
theorem All2.monoM {vs : List V} {as : List α} (h : All2 R vs as) (k : ∀ v a, a ∈ as → R v a → S v a) : All2 S vs as := by
  induction h with
  | nil => exact .nil
  | cons h _ ih => exact .cons (k _ _ List.mem_cons_self h) (ih fun v a m => k v a (List.mem_cons_of_mem _ m))
theorem All2.app {vs ws : List V} {as bs : List α} (h : All2 R vs as) (k : All2 R ws bs) : All2 R (vs ++ ws) (as ++ bs) := by
  induction h with
  | nil => exact k
  | cons h _ ih => exact .cons h ih
theorem All2.one {v : V} {a : α} (h : R v a) : All2 R [v] [a] := .cons h .nil
theorem All2.at {vs : List V} {as : List α} (h : All2 R vs as) : ∀ {i : Nat} {v : V}, vs[i]? = some v → ∃ a, as[i]? = some a ∧ R v a := by
  induction h with
  | nil => exact fun e => by cases e
  | @cons v a vs as h _ ih =>
    intro i w e
    cases i with
    | zero =>
      cases e
      exact ⟨a, rfl, h⟩
    | succ i => exact ih e
theorem All2.at' {vs : List V} {as : List α} (h : All2 R vs as) : ∀ {i : Nat} {a : α}, as[i]? = some a → ∃ v, vs[i]? = some v ∧ R v a := by
  induction h with
  | nil => exact fun e => by cases e
  | @cons v a vs as h _ ih =>
    intro i w e
    cases i with
    | zero =>
      cases e
      exact ⟨v, rfl, h⟩
    | succ i => exact ih e
theorem all2_dp {K : PySem.W.Frag} {H : Hp} {f : α → PyData} : ∀ {us : List V} {ls : List α}, All2 (fun v a => Dp K H v (f a)) us ls → DpAll K H us (ls.map f)
  | _, _, .nil => .nil
  | _, _, .cons h t => .cons h (all2_dp t)
theorem dp_all2 {K : PySem.W.Frag} {H : Hp} {f : α → PyData} : ∀ {ls : List α} {us : List V}, DpAll K H us (ls.map f) → All2 (fun v a => Dp K H v (f a)) us ls
  | [], _, h => by cases h; exact .nil
  | _ :: _, _, h => by
    cases h with
    | cons h t => exact .cons h (dp_all2 t)
end
/-! ### tuples stay, those without a dict too -/
def Kp (K : PySem.W.Frag) (H H' : Hp) : Prop := Tk K H H' ∧ ∀ a xs, PlT H a xs → PlT H' a xs
theorem kp_same {K : PySem.W.Frag} {H H' : Hp} (s : Same H H') : Kp K H H' := ⟨tk_same s, fun _ _ => PlT.same s⟩
theorem Kp.trans {K : PySem.W.Frag} {H H1 H2 : Hp} (x : Kp K H H1) (y : Kp K H1 H2) : Kp K H H2 := ⟨x.1.trans y.1, fun a xs h => y.2 a xs (x.2 a xs h)⟩
theorem kp_lst {K : PySem.W.Frag} {H : Hp} {p : Addr} {ys : List V} {o : HO} (hp : H p = some (.lst ys)) : Kp K H (upd H p o) := ⟨tk_lst hp, fun a xs ⟨ob, h, e⟩ => ⟨ob, by rw [upd_ne fun z => by rw [z, hp] at h; cases h]; exact h, e⟩⟩
theorem kp_dk {K : PySem.W.Frag} {H : Hp} {p : Addr} {kvs : List (Key × V)} {o : HO} (hp : H p = some (.dK kvs)) : Kp K H (upd H p o) := ⟨tk_dk hp, fun a xs ⟨ob, h, e⟩ => ⟨ob, by rw [upd_ne fun z => by rw [z, hp] at h; cases h]; exact h, e⟩⟩
theorem kp_but {K : PySem.W.Frag} {H H' : Hp} {s : Addr} (hs : Src H s) (b : SameBut s H H') : Kp K H H' := ⟨tk_but hs b, fun a xs h => pltB hs b h⟩
theorem kp_refl {K : PySem.W.Frag} {H : Hp} : Kp K H H := ⟨fun _ _ h => h, fun _ _ h => h⟩
/-! ### comprehensions, with draws or without: B keeps what the caller wants kept -/
section
variable {J : It} {n : Nat} {G : Hp → Prop} {Y : Nat → Hp → V → Hp → Prop}
/-- R: how a value of the new list stands for a; M: what holds between the heap ahead and the heap now -/
theorem lc_rel (w : Walk J n G Y) {α : Type} (ls : List α) (p : α → Bool) (R : Hp → V → α → Prop) {g : TG} {tt : TT} {te : TE} {vs : List Nat} {σ : L2.St} {H1 : Hp} {D : Addr} {Qd : Hp → Prop} (hl : ls.length = n) (hn : n < 100000) (nD : H1 D = none)
    (rs : ∀ H H' v a, Same H H' → R H v a → R H' v a) (ru : ∀ H us v a o, H D = some (.lst us) → R H v a → R (upd H D o) v a) (hG : ∀ H', Same H1 H' → G H') (hY : ∀ i H x H', Y i H x H' → Same H H')
    (hs : ∀ i a x H H', ls[i]? = some a → Same H1 H → Y i H x H' → ∀ (Z : V → Hp → Prop) (Z' : Hp → Prop), (∀ y H4, p a = true → Same H' H4 → R H4 y a → Z y H4) → (∀ H4, p a = false → Same H' H4 → Z' H4) → g x (wipe σ vs) H' fun σ2 H2 => wipe σ2 vs = wipe σ vs ∧ tt σ2 H2 fun b H3 => if b = true then te σ2 H3 Z else Z' H3)
    (hd : ∀ H us, Same H1 H → H D = some (.lst us) → All2 (R H) us (ls.filter p) → Qd H) :
    ∃ W : Nat → Nat → Hp → Prop, (∃ m, W 0 m (upd H1 D (.lst []))) ∧ ∀ i m H, W i m H →
      (J.stop i H ∧ Qd H) ∨ (J.go i H ∧ ∃ Nx : Hp → Prop, (∀ H', Nx H' → ∃ m', m' < m ∧ W (i + 1) m' H') ∧ ∀ x H', J.yld i H x H' → g x (wipe σ vs) H' fun σ2 H2 => wipe σ2 vs = wipe σ vs ∧ tt σ2 H2 fun b H3 =>
        if b = true then te σ2 H3 fun y H4 => ∃ acc, H4 D = some (.lst acc) ∧ acc.length < sizeLine ∧ Nx (upd H4 D (.lst (acc ++ [y]))) else Nx H3) := by
  refine lc_it w (fun i H' => Same H1 H' ∧ ∃ us, H' D = some (.lst us) ∧ All2 (R H') us ((ls.take i).filter p)) ⟨same_new nD, [], upd_same, by rw [List.take_zero]; exact .nil⟩ (fun i H' _ h => hG _ h.1) ?_ ?_
  · rintro i x H H' hi ⟨s, us, hM, hda⟩ hy
    have ha := List.getElem?_eq_getElem (show i < ls.length by omega)
    have tk1 : (ls.take (i + 1)).filter p = (ls.take i).filter p ++ if p (ls[i]'(by omega)) = true then [ls[i]'(by omega)] else [] := by
      rw [List.take_add_one, ha, List.filter_append]
      congr 1
      by_cases c : p (ls[i]'(by omega)) = true <;> simp [List.filter, c]
    have sy := hY _ _ _ _ hy
    refine hs i _ x H H' ha s hy _ _ (fun y H4 pa s4 dy => ?_) (fun H4 pa s4 => ?_)
    · have s44 := sy.trans s4
      have hM4 := s44 _ _ hM
      have ul : us.length ≤ i := by
        rw [hda.len]
        exact Nat.le_trans (List.length_filter_le _ _) (List.length_take_le _ _)
      refine ⟨us, hM4, szl (by omega), same_at nD (s.trans s44), us ++ [y], upd_same, ?_⟩
      rw [tk1, if_pos pa]
      exact (hda.mono fun v a h => ru _ _ _ _ _ hM4 (rs _ _ _ _ s44 h)).app (.one (ru _ _ _ _ _ hM4 dy))
    · have s44 := sy.trans s4
      refine ⟨s.trans s44, us, s44 _ _ hM, ?_⟩
      rw [tk1, if_neg (by rw [pa]; decide), List.append_nil]
      exact hda.mono fun v a h => rs _ _ _ _ s44 h
  · rintro H ⟨s, us, hM, hda⟩
    rw [← hl, List.take_length] at hda
    exact hd H us s hM hda
end
/-! ### branches that meet again -/
theorem st_gi {t : TS} {i : Nat} {D : Ends} {rest : TS} {σ : L2.St} {H : Hp} (R : V → Hp → Prop) (h : ∀ D' : Ends, (∀ v H', R v H' → D'.nx (σ.set i (some v)) H') → D'.rt = D.rt → t D' σ H) (k : ∀ v H', R v H' → rest D (σ.set i (some v)) H') : tSeq t rest D σ H := h { D with nx := fun σ' H' => rest D σ' H' } (fun v H' r => k v H' r) rfl
theorem st_co {t : TS} {D : Ends} {rest : TS} {σ : L2.St} {H : Hp} (R : Hp → Prop) (h : ∀ D' : Ends, (∀ H', R H' → D'.nx σ H') → D'.rt = D.rt → t D' σ H) (k : ∀ H', R H' → rest D σ H') : tSeq t rest D σ H := h { D with nx := fun σ' H' => rest D σ' H' } (fun H' r => k H' r) rfl
theorem st_ss {t : TS} {D : Ends} {rest : TS} {σ : L2.St} {H : Hp} (R : L2.St → Hp → Prop) (h : ∀ D' : Ends, (∀ σ' H', R σ' H' → D'.nx σ' H') → D'.rt = D.rt → t D' σ H) (k : ∀ σ' H', R σ' H' → rest D σ' H') : tSeq t rest D σ H := h { D with nx := fun σ' H' => rest D σ' H' } (fun σ' H' r => k σ' H' r) rfl
theorem bare {H H2 : Hp} {C k dk : Addr} (nk : H k = none) (nd : H dk = none) (ne : dk ≠ k) (hu : upd (upd H dk (.own k)) k (.ins C dk []) = H2) : Same H H2 ∧ H2 k = some (.ins C dk []) := by
  subst hu
  exact ⟨Same.trans (same_new nd) (same_new (by rw [upd_ne (Ne.symm ne)]; exact nk)), upd_same⟩
theorem ix_any {K : PySem.W.Frag} {H : Hp} {a : Addr} {xs : List V} {i : Int} {v : V} {Z : VK} (h : SqL K H a xs ∨ SqT K H a xs) (e : atI xs i = some v) (q : Z v H) : rIx K (.ref a) (.int i) H Z :=
  h.elim (fun h => .inl ⟨_, _, _, _, rfl, rfl, h, e, q⟩) (fun h => .inr (.inl ⟨_, _, _, _, rfl, rfl, h, e, q⟩))
theorem all2_eq {α : Type} {f : α → V} : ∀ {us : List V} {as : List α}, All2 (fun v a => v = f a) us as → us = as.map f
  | _, _, .nil => rfl
  | _, _, .cons h t => by rw [h, all2_eq t]; rfl
theorem all2_map {α β : Type} {f : α → β} {R : V → β → Prop} : ∀ {us : List V} {as : List α}, All2 (fun v a => R v (f a)) us as → All2 R us (as.map f)
  | _, _, .nil => .nil
  | _, _, .cons h t => .cons h (all2_map t)
theorem dec_len {α : Type} : ∀ l : List α, decide (0 < ((l.length : Nat) : Int)) = !l.isEmpty
  | [] => rfl
  | _ :: l => decide_eq_true (by rw [List.length_cons]; omega)
theorem perm_asc {ys sh s : List Str} (pm : ys.Perm sh) (st : sortedS ys = true) (nd : sh.Nodup) (as : Asc s) (m : ∀ x, x ∈ s ↔ x ∈ sh) : ys = s :=
  asc_eq (asc_of st (pm.nodup_iff.mpr nd)) as fun x => pm.mem_iff.trans (m x).symm
end Go
set_option maxHeartbeats 1000000
/-! list(reversed(x)), x a list: a new list. -/
namespace Lr
open PySem PySem.Spec PyProof.Rows L2 RT
section
variable {prog : Program} {w : World} {A : Around} {E : Value → Shared → Prop} {s : Shared}
def Back (items acc : Array Value) : Prop := ItemsOf (fun i v => items[items.size - 1 - i]? = some v) acc items.size
/-- the new list at S takes all that the iterator at it yields -/
theorem ext_rev {it l S : Addr} {items : Array Value} {R : Result → Shared → Prop} {c0 : Nat} (hh : A.handled = none) (hit : s.heap.IsRevIter it l ((items.size : Int) - 1)) (hl : s.heap.IsList l items) (hne : l ≠ it) (n1 : S ≠ it) (n2 : S ≠ l) (hn : items.size ≤ sizeLine)
    (hS : s.heap.get? S = some { cls := .type "list", data := .seq #[] c0 })
    (hR : ∀ (h' : Heap) (tk : Nat) (acc : Array Value) (c : Nat), (∀ b o, b ≠ S → b ≠ it → s.heap.get? b = some o → h'.get? b = some o) → h'.get? S = some { cls := .type "list", data := .seq acc c } → Back items acc → R (.ok (.ret .none)) { s with heap := h', toks := tk }) :
    wpAny (model prog w) A.in1 (Builtin.List.listExtendWith (.ref S) (.ref it) .none)
      (fun fin s' => match fin with | .done f => R (.ok f) s' | .again c' => c'.quiet = true ∧ codeAny (model prog w) A c' R s') (fun e s' => R (.error e) s') s := by
  have W := (Walks.listRev (prog := prog) (w := w) (A := A.in1) hh it l hne items).toS
  have nin : S ∉ [it, l] := fun z => (List.mem_cons.mp z).elim n1 fun z => n2 (List.mem_singleton.mp z)
  have hT : s.TypeIs (.ref it) "list_reverseiterator" := Heap.IsRevIter.typeIs hit
  unfold Builtin.List.listExtendWith
  refine wpAny_bind (wpAny_typeOf hT ?_)
  rw [if_neg (by rw [show Builtin.List.listSameRef (.ref S) (.ref it) = false by simp [Builtin.List.listSameRef, n1]]; decide)]
  refine wpAny_bind (wpAny_pyIter_revIter hit ?_)
  refine wpAny_bind (wpAny_holding ?_)
  unfold Builtin.List.listLengthHint
  refine wpAny_bind (wpAny_specialOf hT nolen_lri ?_)
  show wpAny _ A.in1 (specialOf (Value.ref it) (Str.ofString "__length_hint__") >>= _) _ _ _
  refine wpAny_bind (wpAny_specialOf hT hint_lri ?_)
  generalize hid : ("list_reverseiterator.__length_hint__" : String) = id0
  wp_delta
  rw [show splitId id0 = some ("list_reverseiterator", "__length_hint__") from by subst hid; decide +kernel]
  subst hid
  refine wpAny_bind (wpAny_isInstance (b := true) hT (by rw [isSubtype_type]; kernel_rfl) ?_)
  refine wpAny_pure ?_
  rw [if_neg (by decide)]
  have e0 : ((items.size : Nat) : Int) - 1 - ((0 : Nat) : Int) = (items.size : Int) - 1 := by omega
  refine wpAny_pure ⟨plainId_quiet F.plain_extend_loop _, codeAny_extend_loopS W hn _ nin _ items.size 0 _ _ _ rfl (Nat.zero_le _) ⟨Nat.zero_le _, by rw [e0]; exact hit, hl⟩ hS (ItemsOf.nil _) fun s' acc' c' hm hS' hacc => ?_⟩
  rw [Moved.eq_with hm]
  refine hR s'.heap s'.toks acc' c' (fun b o b1 b2 e => hm.heap b o (fun z => ?_) e) hS' hacc
  rcases List.mem_cons.mp z with z | z
  · exact b1 z
  · exact b2 (List.mem_singleton.mp z)
theorem call_rev {it l : Addr} {items : Array Value} {Q : Value → Shared → Prop} (hh : A.handled = none) (hit : s.heap.IsRevIter it l ((items.size : Int) - 1)) (hl : s.heap.IsList l items) (hne : l ≠ it) (hn : items.size ≤ sizeLine)
    (hQ : ∀ (h' : Heap) (tk : Nat) (acc : Array Value) (c : Nat), (∀ b o, b ≠ it → s.heap.get? b = some o → h'.get? b = some o) → h'.get? s.heap.objs.size = some { cls := .type "list", data := .seq acc c } → Back items acc → Q (.ref s.heap.objs.size) { s with heap := h', toks := tk }) :
    wpAny (model prog w) A (call (.type "list") [.ref it]) Q E s := by
  obtain ⟨oi, hoi, _⟩ := id hit
  obtain ⟨ol, hol, _⟩ := id hl
  have li := Heap.lt_size hoi
  have ll := Heap.lt_size hol
  refine callType_codes (Q₁ := fun obj s₁ => obj = .ref s.heap.objs.size ∧ s₁ = { s with heap := s.heap.push { cls := .type "list", data := .seq #[] } }) PySem.F.called_list (PySem.F.typeCall_list_1 _) PySem.F.entry_list_init
    (code_list_new _ ⟨rfl, rfl⟩) fun obj s₁ h₁ => ?_
  obtain ⟨rfl, rfl⟩ := h₁
  have hS : (s.heap.push { cls := .type "list", data := .seq #[] }).get? s.heap.objs.size = some { cls := .type "list", data := .seq #[] } := Heap.get?_push_size _ rfl
  refine ⟨⟨_, hS, rfl⟩, PySem.F.args_list_init_2 _ _, ?_⟩
  show wpAny _ _ (do let old ← Builtin.List.listItems (.ref s.heap.objs.size); Builtin.List.listUpdate (.ref s.heap.objs.size) (fun _ => #[]); letGo old.toList.reverse; Builtin.List.listExtendWith (.ref s.heap.objs.size) (.ref it) .none) _ _ _
  refine wpAny_bind ?_
  unfold Builtin.List.listItems
  refine wpAny_bind (wpAny_seqItems hS rfl (wpAny_pure ?_))
  show wpAny _ _ (updateSeq s.heap.objs.size (fun _ => #[]) >>= fun _ => letGo (#[] : Array Value).toList.reverse >>= fun _ => Builtin.List.listExtendWith (.ref s.heap.objs.size) (.ref it) .none) _ _ _
  refine wpAny_bind (wpAny_updateSeq hS rfl ?_)
  have hS2 := Heap.get?_update_self (Obj.mapSeq (fun _ => (#[] : Array Value))) hS rfl
  have oth : ∀ b o, b ≠ s.heap.objs.size → s.heap.get? b = some o → ((s.heap.push { cls := .type "list", data := .seq #[] }).update s.heap.objs.size (Obj.mapSeq (fun _ => (#[] : Array Value)))).get? b = some o :=
    fun b o hb e => (Heap.get?_update_other _ _ (Ne.symm hb)).trans (Heap.get?_push_of_some _ e)
  refine wpAny_bind (wpAny_letGo ?_)
  refine ext_rev (A := A.in1) hh (hit.at fun o e => oth it o (Nat.ne_of_lt li) e) (hl.at fun o e => oth l o (Nat.ne_of_lt ll) e) hne (Nat.ne_of_gt li) (Nat.ne_of_gt ll) hn hS2 fun h' tk acc c hk hS' hb => ?_
  exact ⟨rfl, hQ h' tk acc c (fun b o hb e => hk b o (Nat.ne_of_lt (Heap.lt_size e)) hb (oth b o (Nat.ne_of_lt (Heap.lt_size e)) e)) hS' hb⟩
end
section
variable {X : Cx}
def tLr (K : PySem.W.Frag) (te : TE) : TE := fun σ H Q => te σ H fun v H1 => ∃ (a : Addr) (xs : List V), v = .ref a ∧ SqL K H1 a xs ∧ ∀ q, H1 q = none → Q (.ref q) (upd H1 q (.lst xs.reverse))
theorem pe_listRev {e : Expr} {te : TE} {p p2 pos pos2 : Pos} (hc : X.calm = true) (hg : Gl X "list") (hm : X.mg "list" = none) (hg2 : Gl X "reversed") (hm2 : X.mg "reversed" = none) (he : PE X e te)
    (hs : starEach [e] X.env = (false, eval e X.env) :: starEach [] X.env := by rfl)
    (hs2 : starEach [.Call (.Name "reversed" p2) [e] [] pos2] X.env = (false, eval (.Call (.Name "reversed" p2) [e] [] pos2) X.env) :: starEach [] X.env := by rfl) :
    PE X (.Call (.Name "list" p) [.Call (.Name "reversed" p2) [e] [] pos2] [] pos) (tLr X.K te) := by
  refine ⟨fun pins s σ H Q I h => ?_⟩
  refine Call_ (ld_blt I hg hm boot_list (PyProof.Rows.callWith_type1 (args_cons (Call_ (ld_blt I hg2 hm2 PyProof.Rows.boot_reversed (PyProof.Rows.callWith_type1 (args_cons (thn (he.run pins s σ H _ I h) fun u s1 ⟨v, H1, I1, r1, q1⟩ => args_nil ?_) hs) hs rfl))) hs2) hs2 rfl))
  obtain ⟨a, xs, ev, hq, q⟩ := q1
  subst ev
  obtain rfl : u = Value.ref a := r1
  obtain ⟨its, rv, p', hz⟩ := I1.list hq
  refine call_reversed_list p'.isList (args_nil ?_)
  have I2 : Inv X pins σ H1 { s1 with heap := s1.heap.push (revObj a ((its.toArray.size : Int) - 1)) } := I1.kept (t' := s1.toks) fun b o e => Heap.get?_push_of_some _ e
  have hl := p'.isList
  obtain ⟨ol, hol, _⟩ := id hl
  have hne : a ≠ s1.heap.objs.size := Nat.ne_of_lt (Heap.lt_size hol)
  have hn : its.toArray.size ≤ sizeLine := by rw [List.size_toArray, ← rv.length]; exact hz
  refine call_rev (s := { s1 with heap := s1.heap.push (revObj a ((its.toArray.size : Int) - 1)) }) (I1.ok.hd hc) ⟨_, Heap.get?_push_size _ rfl, rfl, rfl⟩ (hl.push _) hne hn fun h' tk acc c hk hS hb => ?_
  have old : ∀ b o, s1.heap.get? b = some o → h'.get? b = some o := fun b o e => hk b o (Nat.ne_of_lt (Heap.lt_size e)) (Heap.get?_push_of_some _ e)
  have up : s1.heap.objs.size ≤ (s1.heap.push (revObj a ((its.toArray.size : Int) - 1))).objs.size := by rw [Heap.size_push]; exact Nat.le_succ _
  refine ⟨.ref _, upd H1 _ (.lst xs.reverse), I1.laid (t' := tk) old up (show ObjOk X.prog X.w _ _ _ (.lst xs.reverse) from ⟨by rw [List.length_reverse]; exact hz, acc.toList, c, vals_rev rv hb, ?_⟩), rfl, q _ (I1.hok.fresh up)⟩
  rw [Array.toArray_toList]
  exact hS
/-- t + u inside a comprehension -/
theorem op_catAK {K0 : PySem.W.Frag} (h : X.K = K0) : OpR X (binaryOp .Add) (rCatA K0) := h ▸ op_catA
end
end Lr
set_option maxHeartbeats 1000000
/-! list(zip(t, u)), t and u tuples: a new list of new pairs. -/
namespace Lz
open PySem PySem.Spec PyProof.Rows L2 RZ
open PySem.W
section
variable {pr : Program} {wo : World} {B : Around} {E : Value → Shared → Prop} {s : Shared} {z TI TO T i1 i2 l1 l2 : Addr} {f : Bool} {oT : Obj} {j k : Nat} {xs ys : Array Value} {x y : Value}
theorem out_item {Q : Value → Shared → Prop} (D : ZipApart z TI TO i1 i2 l1 l2) (hz : IsZipHeld s.heap z TI TO T f) (hT : s.heap.get? T = some oT) (hTI : IsPair s.heap TI (.ref i1) (.ref i2)) (h1 : s.heap.IsTupleIter i1 l1 j) (h2 : s.heap.IsTupleIter i2 l2 k) (hl1 : s.heap.IsTuple l1 xs) (hl2 : s.heap.IsTuple l2 ys) (hx : xs[j]? = some x) (hy : ys[k]? = some y)
    (q : ∀ g, IsZipHeld g z TI TO T true → g.IsTupleIter i1 l1 (j + 1) → g.IsTupleIter i2 l2 (k + 1) → IsPair g s.heap.objs.size x y → g.objs.size = s.heap.objs.size + 1 → (∀ c o, c ≠ z → c ≠ i1 → c ≠ i2 → s.heap.get? c = some o → g.get? c = some o) → Q (.ref s.heap.objs.size) { s with heap := g }) :
    wpAny (model pr wo) B (Builtin.«zip.__next__» ⟨[.ref z], []⟩) (fun fin s' => ∃ v, fin = .done (.ret v) ∧ Q v s') E s := by
  show wpAny _ _ (field (.ref z) 2 >>= _) _ _ _; refine wpAny_bind (wpAny_field hz rfl (x := .bool false) rfl ?_)
  show wpAny _ _ (field (.ref z) 3 >>= _) _ _ _; refine wpAny_bind (wpAny_field hz rfl (x := .ref TI) rfl (wpAny_bind (wpAny_seqItems hTI rfl ?_)))
  show wpAny _ _ (Builtin.SmallTypes.ownedTupleIsFree (.ref z) >>= _) _ _ _; refine wpAny_bind (wpAny_tupleHeld_zip hz hT fun ga za ka => ?_)
  simp only [Bool.false_eq_true, if_false]; refine wpAny_bind ?_
  rw [← Array.forIn_toList]; simp only [List.forIn_cons, List.forIn_nil]
  refine wpAny_bind (wpAny_bind (wpAny_holding ?_)); show wpAny _ _ (Builtin.SmallTypes.nextOf (.ref i1) >>= _) _ _ _
  refine wpAny_bind (nextOf_tuple_item (s := { s with heap := ga }) (h1.extBut ka.extBut D.i1z) (hl1.extBut ka.extBut D.l1z) hx fun gb jb kb => wpAny_pure (wpAny_pure ?_))
  refine wpAny_bind (wpAny_bind (wpAny_holding ?_)); show wpAny _ _ (Builtin.SmallTypes.nextOf (.ref i2) >>= _) _ _ _
  refine wpAny_bind (nextOf_tuple_item (s := { s with heap := gb }) ((h2.extBut ka.extBut D.i2z).extBut kb.extBut D.i12.symm) ((hl2.extBut ka.extBut D.l2z).extBut kb.extBut D.l2i1) hy fun gc jc kc => wpAny_pure ?_)
  refine wpAny_pure (wpAny_pure ?_); show wpAny _ _ (newTuple [x, y] >>= _) _ _ _
  refine wpAny_bind (wpAny_newTuple ?_)
  have sz : gc.objs.size = s.heap.objs.size := kc.1.trans (kb.1.trans ka.1)
  have zc : IsZipHeld gc z TI TO T true := kc.extBut _ _ D.i2z.symm (kb.extBut _ _ D.i1z.symm za)
  have kk : ∀ c o, c ≠ z → c ≠ i1 → c ≠ i2 → s.heap.get? c = some o → gc.get? c = some o := fun c o a1 a2 a3 e => kc.extBut _ _ a3 (kb.extBut _ _ a2 (ka.extBut _ _ a1 e))
  have j1 : gc.IsTupleIter i1 l1 (j + 1) := jb.extBut kc.extBut D.i12
  refine wpAny_pure ⟨_, rfl, ?_⟩; show Q (.ref gc.objs.size) _
  have p5 : IsPair (gc.push { cls := .type "tuple", data := .seq #[x, y] }) gc.objs.size x y := Heap.get?_push_size _ rfl
  have p6 : (gc.push { cls := .type "tuple", data := .seq #[x, y] }).objs.size = gc.objs.size + 1 := Heap.size_push ..
  rw [sz] at p5 p6 ⊢
  exact q _ (Heap.get?_push_of_some _ zc) (j1.at fun o e => Heap.get?_push_of_some _ e) (jc.at fun o e => Heap.get?_push_of_some _ e) p5 p6 fun c o a1 a2 a3 e => Heap.get?_push_of_some _ (kk c o a1 a2 a3 e)
theorem out_end {Q : Fin → Shared → Prop} (hh : B.handled = none) (D : ZipApart z TI TO i1 i2 l1 l2) (hz : IsZipHeld s.heap z TI TO T f) (hT : s.heap.get? T = some oT) (hTI : IsPair s.heap TI (.ref i1) (.ref i2)) (h1 : s.heap.IsTupleIter i1 l1 j) (h2 : s.heap.IsTupleIter i2 l2 k) (hl1 : s.heap.IsTuple l1 xs) (hl2 : s.heap.IsTuple l2 ys) (hend : xs[j]? = none ∨ ys[k]? = none)
    (q : ∀ g e, (∀ c o, c ≠ z → c ≠ i1 → c ≠ i2 → s.heap.get? c = some o → g.get? c = some o) → (∃ o, g.get? e = some o ∧ o.cls = .type "StopIteration") → E (.ref e) { s with heap := g }) :
    wpAny (model pr wo) B (Builtin.«zip.__next__» ⟨[.ref z], []⟩) Q E s := by
  show wpAny _ _ (field (.ref z) 2 >>= _) _ _ _; refine wpAny_bind (wpAny_field hz rfl (x := .bool false) rfl ?_)
  show wpAny _ _ (field (.ref z) 3 >>= _) _ _ _; refine wpAny_bind (wpAny_field hz rfl (x := .ref TI) rfl (wpAny_bind (wpAny_seqItems hTI rfl ?_)))
  show wpAny _ _ (Builtin.SmallTypes.ownedTupleIsFree (.ref z) >>= _) _ _ _; refine wpAny_bind (wpAny_tupleHeld_zip hz hT fun ga za ka => ?_)
  simp only [Bool.false_eq_true, if_false]; refine wpAny_bind ?_
  rw [← Array.forIn_toList]; simp only [List.forIn_cons, List.forIn_nil]
  refine wpAny_bind (wpAny_bind (wpAny_holding ?_)); show wpAny _ _ (Builtin.SmallTypes.nextOf (.ref i1) >>= _) _ _ _
  cases hx : xs[j]? with
  | none => exact wpAny_bind (nextOf_tuple_end (s := { s with heap := ga }) hh (h1.extBut ka.extBut D.i1z) (hl1.extBut ka.extBut D.l1z) hx fun gb e kb he => q gb e (fun c o a1 a2 _ v => kb _ _ a2 (ka.extBut _ _ a1 v)) he)
  | some x =>
    have hy : ys[k]? = none := hend.resolve_left (by rw [hx]; exact fun h => nomatch h)
    refine wpAny_bind (nextOf_tuple_item (s := { s with heap := ga }) (h1.extBut ka.extBut D.i1z) (hl1.extBut ka.extBut D.l1z) hx fun gb jb kb => wpAny_pure (wpAny_pure ?_))
    refine wpAny_bind (wpAny_bind (wpAny_holding ?_)); show wpAny _ _ (Builtin.SmallTypes.nextOf (.ref i2) >>= _) _ _ _
    exact wpAny_bind (nextOf_tuple_end (s := { s with heap := gb }) hh ((h2.extBut ka.extBut D.i2z).extBut kb.extBut D.i12.symm) ((hl2.extBut ka.extBut D.l2z).extBut kb.extBut D.l2i1) hy fun gc e kc he => q gc e (fun c o a1 a2 a3 v => kc _ _ a3 (kb.extBut _ _ a2 (ka.extBut _ _ a1 v))) he)
/-- a zip over two tuples, where it stands -/
structure ZS (h : Heap) (z TI TO i1 i2 l1 l2 : Addr) (i : Nat) : Prop where
  ti : IsPair h TI (.ref i1) (.ref i2)
  a : h.IsTupleIter i1 l1 i
  b : h.IsTupleIter i2 l2 i
  d : ∃ o, h.get? TO = some o
  c : (IsZip h z TI TO .none ∧ ∃ u v, IsPair h TO u v) ∨ ∃ (T : Addr) (f : Bool) (o : Obj), IsZipHeld h z TI TO T f ∧ h.get? T = some o ∧ T ≠ z ∧ T ≠ i1 ∧ T ≠ i2
theorem ZS.keep {h h' : Heap} {i : Nat} (st : ZS h z TI TO i1 i2 l1 l2 i) {L : Addr} {oL : Obj} (hL : h.get? L = some oL) (hc : oL.cls = .type "list") (kp : ∀ c o, c ≠ L → h.get? c = some o → h'.get? c = some o) (ex : ∃ o, h'.get? L = some o) : ZS h' z TI TO i1 i2 l1 l2 i := by
  have ne : ∀ {c o S}, h.get? c = some o → o.cls = .type S → S ≠ "list" → c ≠ L := fun {c o S} e hs hn x => by
    subst x
    rw [hL] at e
    cases e
    rw [hc] at hs
    exact hn (Value.type.inj hs).symm
  refine ⟨kp _ _ (ne st.ti rfl (by decide)) st.ti, st.a.at fun o e => kp _ _ ?_ e, st.b.at fun o e => kp _ _ ?_ e, ?_, ?_⟩
  · obtain ⟨o', e', c', _⟩ := st.a
    exact ne e' c' (by decide)
  · obtain ⟨o', e', c', _⟩ := st.b
    exact ne e' c' (by decide)
  · obtain ⟨o', e'⟩ := st.d
    by_cases e : TO = L
    · exact e ▸ ex
    · exact ⟨o', kp _ _ e e'⟩
  · rcases st.c with ⟨p, u, v, r⟩ | ⟨T, f, o, p, r, n1, n2, n3⟩
    · exact .inl ⟨kp _ _ (ne p rfl (by decide)) p, u, v, kp _ _ (ne r rfl (by decide)) r⟩
    · by_cases e : T = L
      · obtain ⟨o', ho'⟩ := ex
        exact .inr ⟨T, f, o', kp _ _ (ne p rfl (by decide)) p, e ▸ ho', n1, n2, n3⟩
      · exact .inr ⟨T, f, o, kp _ _ (ne p rfl (by decide)) p, kp _ _ e r, n1, n2, n3⟩
theorem ZS.push {h h' : Heap} {i : Nat} (st : ZS h z TI TO i1 i2 l1 l2 i) (kp : ∀ c o, h.get? c = some o → h'.get? c = some o) : ZS h' z TI TO i1 i2 l1 l2 i := by
  refine ⟨kp _ _ st.ti, st.a.at fun o e => kp _ _ e, st.b.at fun o e => kp _ _ e, st.d.imp fun o e => kp _ _ e, ?_⟩
  rcases st.c with ⟨p, u, v, r⟩ | ⟨T, f, o, p, r, n⟩
  · exact .inl ⟨kp _ _ p, u, v, kp _ _ r⟩
  · exact .inr ⟨T, f, o, kp _ _ p, kp _ _ r, n⟩
theorem next_item {i : Nat} {Q : Option Value → Shared → Prop} (D : ZipApart z TI TO i1 i2 l1 l2) (st : ZS s.heap z TI TO i1 i2 l1 l2 i) (hl1 : s.heap.IsTuple l1 xs) (hl2 : s.heap.IsTuple l2 ys) (hx : xs[i]? = some x) (hy : ys[i]? = some y)
    (q : ∀ g, ZS g z TI TO i1 i2 l1 l2 (i + 1) → IsPair g s.heap.objs.size x y → (∀ c o, c ∉ [z, TI, TO, i1, i2] → s.heap.get? c = some o → g.get? c = some o) → Q (some (.ref s.heap.objs.size)) { s with heap := g }) : wpAny (model pr wo) B (pyNext (.ref z)) Q E s := by
  have lt : ∀ {c o}, s.heap.get? c = some o → s.heap.objs.size ≠ c := fun e => Nat.ne_of_gt (Heap.lt_size e)
  have n1 : s.heap.objs.size ≠ i1 := by obtain ⟨_, e, _⟩ := st.a; exact lt e
  have n2 : s.heap.objs.size ≠ i2 := by obtain ⟨_, e, _⟩ := st.b; exact lt e
  rcases st.c with ⟨hz, u, v, ho⟩ | ⟨T, f, o, hz, hT, t1, t2, t3⟩
  · refine pyNext_zipT_item D hz st.ti ho st.a st.b hl1 hl2 hx hy fun g p1 p2 p3 p4 p5 p6 p7 => ?_
    refine q g ⟨p7 _ _ D.TIz D.TITO D.TIi1 D.TIi2 st.ti, p3, p4, ⟨_, p2⟩, .inr ⟨_, false, _, p1, p5, lt hz, n1, n2⟩⟩ p5 fun c o' hc e => p7 c o' (fun w => hc (by simp [w])) (fun w => hc (by simp [w])) (fun w => hc (by simp [w])) (fun w => hc (by simp [w])) e
  · have hTy : s.TypeIs (.ref z) "zip" := ⟨_, hz, rfl⟩
    unfold pyNext
    refine wpAny_bind (wpAny_attempt (wpAny_callSpecial?_slot (name := Str.ofString "__next__") hTy F.slot_zip_next (wpAny_call_entry F.slot_zip_next hTy F.entry_zip_next (out_item D hz hT st.ti st.a st.b hl1 hl2 hx hy fun g p1 p3 p4 p5 p6 p7 => wpAny_pure ?_) (F.args_zip_next_1 _))))
    obtain ⟨od, ed⟩ := st.d
    exact q g ⟨p7 _ _ D.TIz D.TIi1 D.TIi2 st.ti, p3, p4, ⟨od, p7 _ _ D.TOz D.TOi1 D.TOi2 ed⟩, .inr ⟨T, true, _, p1, p7 _ _ t1 t2 t3 hT, t1, t2, t3⟩⟩ p5 fun c o' hc e => p7 c o' (fun w => hc (by simp [w])) (fun w => hc (by simp [w])) (fun w => hc (by simp [w])) e
theorem next_end {i : Nat} {Q : Option Value → Shared → Prop} (hh : B.handled = none) (D : ZipApart z TI TO i1 i2 l1 l2) (st : ZS s.heap z TI TO i1 i2 l1 l2 i) (hl1 : s.heap.IsTuple l1 xs) (hl2 : s.heap.IsTuple l2 ys) (he : xs[i]? = none ∨ ys[i]? = none)
    (q : ∀ g, (∀ c o, c ∉ [z, TI, TO, i1, i2] → s.heap.get? c = some o → g.get? c = some o) → Q none { s with heap := g }) : wpAny (model pr wo) B (pyNext (.ref z)) Q E s := by
  rcases st.c with ⟨hz, u, v, ho⟩ | ⟨T, f, o, hz, hT, t1, t2, t3⟩
  · exact pyNext_zipT_end hh D hz st.ti ho st.a st.b hl1 hl2 he fun g p7 => q g fun c o' hc e => p7 c o' (fun w => hc (by simp [w])) (fun w => hc (by simp [w])) (fun w => hc (by simp [w])) (fun w => hc (by simp [w])) e
  · have hTy : s.TypeIs (.ref z) "zip" := ⟨_, hz, rfl⟩
    unfold pyNext
    refine wpAny_bind (wpAny_attempt (wpAny_callSpecial?_slot (name := Str.ofString "__next__") hTy F.slot_zip_next (wpAny_call_entry F.slot_zip_next hTy F.entry_zip_next (out_end hh D hz hT st.ti st.a st.b hl1 hl2 he fun g e p7 hs => ?_) (F.args_zip_next_1 _))))
    obtain ⟨oe, e1, e2⟩ := hs
    refine wpAny_bind (wpAny_isInstance (T := "StopIteration") (b := true) ⟨oe, e1, e2⟩ isSubtype_stop (wpAny_pure ?_))
    exact q g fun c o' hc e => p7 c o' (fun w => hc (by simp [w])) (fun w => hc (by simp [w])) (fun w => hc (by simp [w])) e
end
section
variable {X : Cx} {pins : List (Addr × Obj)} {σ : L2.St} {z TI TO i1 i2 a b L : Addr} {xs ys : List V} {B : Around} {R : Result → Shared → Prop} {res : Value}
theorem ZS.live {h : Heap} {i : Nat} (st : ZS h z TI TO i1 i2 a b i) : ∀ c ∈ [z, TI, TO, i1, i2], ∃ o, h.get? c = some o := fun c hc => by
  have e' : c = z ∨ c = TI ∨ c = TO ∨ c = i1 ∨ c = i2 := by simpa using hc
  rcases e' with e | e | e | e | e
  · rw [e]
    rcases st.c with ⟨p, _⟩ | ⟨_, _, _, p, _⟩
    · exact ⟨_, p⟩
    · exact ⟨_, p⟩
  · rw [e]; exact ⟨_, st.ti⟩
  · rw [e]; exact st.d
  · rw [e]; obtain ⟨o, h, _⟩ := st.a; exact ⟨o, h⟩
  · rw [e]; obtain ⟨o, h, _⟩ := st.b; exact ⟨o, h⟩
/-- the pairs made so far -/
def Prs (H : Hp) (xs ys acc : List V) : Prop := ∀ (m : Nat) (v : V), acc[m]? = some v → ∃ x y T, xs[m]? = some x ∧ ys[m]? = some y ∧ v = .ref T ∧ H T = some (.tup [x, y])
theorem collect (D : ZipApart z TI TO i1 i2 a b) (hh : B.in1.handled = none) (nl : min xs.length ys.length ≤ sizeLine) : ∀ (k i : Nat) (s : Shared) (Hc : Hp) (acc : List V), min xs.length ys.length - i = k → i ≤ min xs.length ys.length → L2.Inv X pins σ Hc s → ZS s.heap z TI TO i1 i2 a b i → (∀ c ∈ [z, TI, TO, i1, i2], FpOk X pins Hc c) → Hc L = some (.lst acc) → acc.length = i → Prs Hc xs ys acc → SqT X.K Hc a xs → SqT X.K Hc b ys →
    (∀ s' H' acc', L2.Inv X pins σ H' s' → Bx.SameBut L Hc H' → H' L = some (.lst acc') → acc'.length = min xs.length ys.length → Prs H' xs ys acc' → R (.ok (.ret res)) s') → codeAny (model X.prog X.w) B (.builtin "list.extend.loop" ⟨[.ref L, .ref z, res], []⟩) R s := by
  intro k
  induction k with
  | zero =>
    intro i s Hc acc hk hi I st hf hL al pr ha hb fin
    obtain ⟨its, rv, p, _⟩ := I.tuple ha
    obtain ⟨its2, rv2, p2, _⟩ := I.tuple hb
    have l1 := rv.length
    have l2 := rv2.length
    refine codeAny_builtin F.entry_extend_loop ?_
    rw [Around.under_plainId F.plain_extend_loop _]
    show wpAny _ B.in1 (pyNext (.ref z) >>= _) _ _ s
    refine wpAny_bind (next_end hh D st p p2 ?_ fun g kp => wpAny_pure ?_)
    · rcases Nat.le_total xs.length ys.length with h | h
      · exact .inl (by simp; omega)
      · exact .inr (by simp; omega)
    · exact fin _ Hc acc (I.turnedL (t' := s.toks) (ch := [z, TI, TO, i1, i2]) kp hf) (Bx.SameBut.refl _ _) hL (by omega) pr
  | succ k rec_ =>
    intro i s Hc acc hk hi I st hf hL al pr ha hb fin
    obtain ⟨its, rv, p, _⟩ := I.tuple ha
    obtain ⟨its2, rv2, p2, _⟩ := I.tuple hb
    have x1 : i < xs.length := by omega
    have y1 : i < ys.length := by omega
    obtain ⟨u, hu, ru⟩ := rv.get (List.getElem?_eq_getElem x1)
    obtain ⟨u2, hu2, ru2⟩ := rv2.get (List.getElem?_eq_getElem y1)
    refine codeAny_builtin F.entry_extend_loop ?_
    rw [Around.under_plainId F.plain_extend_loop _]
    show wpAny _ B.in1 (pyNext (.ref z) >>= _) _ _ s
    refine wpAny_bind (next_item D st p p2 (by simpa using hu) (by simpa using hu2) fun g st1 p5 kp => ?_)
    generalize hT : s.heap.objs.size = T at p5
    have nT : Hc T = none := I.hok.fresh (Nat.le_of_eq hT)
    have new : ObjOk X.prog X.w (upd Hc T (.tup [xs[i], ys[i]])) g T (.tup [xs[i], ys[i]]) := ⟨by show 2 ≤ sizeLine; decide, [u, u2], .cons ru (.cons ru2 .nil), ⟨_, p5, rfl, _, rfl⟩⟩
    have I1 := I.turnedNew (t' := s.toks) (ch := [z, TI, TO, i1, i2]) kp hf (Nat.le_of_eq hT) new
    have LT : L ≠ T := fun e => by rw [e, nT] at hL; cases hL
    have hL1 : upd Hc T (.tup [xs[i], ys[i]]) L = some (.lst acc) := by rw [upd_ne LT]; exact hL
    obtain ⟨z1, its3, n3, r3, l3, e3⟩ := I1.lstM hL1
    show wpAny _ B.in1 (updateSeq L (·.push (.ref T)) >>= _) _ _ _
    have I2 := I1.lset (its' := its3 ++ [.ref T]) (f := fun v => v.push (.ref T)) (ys := acc ++ [.ref T]) (t' := s.toks) hL1 e3 (by simp) (r3.append (.cons (show L2.RelV (.ref T) (.ref T) from rfl) .nil)) (by rw [List.length_append, List.length_singleton]; omega)
    have sbL : Bx.SameBut L Hc (upd (upd Hc T (.tup [xs[i], ys[i]])) L (.lst (acc ++ [.ref T]))) := fun c o n e => by
      rw [upd_ne n, upd_ne (fun w => by rw [w, nT] at e; cases e)]
      exact e
    have tk : ∀ {c vs}, SqT X.K Hc c vs → SqT X.K (upd (upd Hc T (.tup [xs[i], ys[i]])) L (.lst (acc ++ [.ref T]))) c vs := fun {c vs} h => by
      rcases h with (h | ⟨w, h⟩) | h
      · exact .inl (.inl (sbL _ _ (fun w => by rw [w, hL] at h; cases h) h))
      · exact .inl (.inr ⟨w, sbL _ _ (fun w => by rw [w, hL] at h; cases h) h⟩)
      · exact .inr h
    refine wpAny_bind (wpAny_updateSeq e3 rfl (wpAny_pure ⟨plainId_quiet F.plain_extend_loop _, ?_⟩) ?_ ?_)
    · refine rec_ (i + 1) _ _ (acc ++ [.ref T]) (by omega) (by omega) I2 ?_ (fun c hc => ?_) upd_same (by rw [List.length_append, al]; rfl) (fun m v hm => ?_) (tk ha) (tk hb) fun s' H' acc' I' sb h1 h2 h3 => fin s' H' acc' I' (sbL.trans sb) h1 h2 h3
      · exact st1.keep e3 rfl (fun c o n e => (Heap.get?_update_other _ _ (Ne.symm n)).trans e) ⟨_, Heap.get?_update_self _ e3 rfl⟩
      · obtain ⟨o, ho⟩ := st.live c hc
        have c1 : c ≠ T := fun w => Nat.ne_of_lt (Heap.lt_size ho) (w.trans hT.symm)
        have c2 : c ≠ L := fun w => by have := (hf c hc).1; rw [w, hL] at this; cases this
        exact ⟨by rw [upd_ne c2, upd_ne c1]; exact (hf c hc).1, (hf c hc).2⟩
      · rcases Nat.lt_trichotomy m acc.length with lm | lm | lm
        · rw [List.getElem?_append_left lm] at hm
          obtain ⟨x, y, T', h1, h2, h3, h4⟩ := pr m v hm
          exact ⟨x, y, T', h1, h2, h3, sbL _ _ (fun w => by rw [w, hL] at h4; cases h4) h4⟩
        · subst lm
          rw [List.getElem?_append_right (Nat.le_refl _), Nat.sub_self] at hm
          cases hm
          rw [al]
          exact ⟨_, _, T, List.getElem?_eq_getElem x1, List.getElem?_eq_getElem y1, rfl, by rw [upd_ne LT.symm, upd_same]⟩
        · rw [List.getElem?_eq_none (by rw [List.length_append, List.length_singleton]; omega)] at hm
          cases hm
    · rw [List.size_toArray]; omega
    · show (its3.toArray.push _).size ≤ sizeLine + 1
      rw [Array.size_push, List.size_toArray]; omega
theorem nolen_zip : typeLookup (.type "zip") "__len__" = pure none := by rw [typeLookup_type, builtinLookup_eq_fast]; kernel_rfl
theorem nohint_zip : typeLookup (.type "zip") "__length_hint__" = pure none := by rw [typeLookup_type, builtinLookup_eq_fast]; kernel_rfl
def tLz (K : PySem.W.Frag) (ta : TA) : TE := fun σ H Q => ta σ H fun vs H1 => ∃ (a b : Addr) (xs ys : List V), vs = [.ref a, .ref b] ∧ SqT K H1 a xs ∧ SqT K H1 b ys ∧ xs.length ≤ 100000 ∧ ∀ (q : Addr) (acc : List V) (H' : Hp), (∀ b o, H1 b = some o → H' b = some o) → H1 q = none → H' q = some (.lst acc) → acc.length = min xs.length ys.length → Prs H' xs ys acc → Q (.ref q) H'
theorem pe_listZip {e e2 : Expr} {ta : TA} {p p2 pos pos2 : Pos} (hc : X.calm = true) (hg : Gl X "list") (hm : X.mg "list" = none) (hg2 : Gl X "zip") (hm2 : X.mg "zip" = none) (ha : PA X [e, e2] ta)
    (hs : starEach [e, e2] X.env = (false, eval e X.env) :: starEach [e2] X.env := by rfl) (hpl : (backTo pos2 (starEach [e2] X.env)).any (·.1) = false := by rfl)
    (hs2 : starEach [.Call (.Name "zip" p2) [e, e2] [] pos2] X.env = (false, eval (.Call (.Name "zip" p2) [e, e2] [] pos2) X.env) :: starEach [] X.env := by rfl) :
    PE X (.Call (.Name "list" p) [.Call (.Name "zip" p2) [e, e2] [] pos2] [] pos) (tLz X.K ta) := by
  refine ⟨fun pins s σ H Q I h => ?_⟩
  refine Call_ (ld_blt I hg hm boot_list (PyProof.Rows.callWith_type1 (args_cons (Call_ (ld_blt I hg2 hm2 PyProof.Rows.boot_zip (PyProof.Rows.callWith_type1 (thn (ha.run pos2 pins s σ H _ I h) fun us s1 ⟨vs, H1, I1, r1, q1⟩ => ?_) hs hpl))) hs2) hs2 rfl))
  obtain ⟨a, b, xs, ys, ev, hx, hy, xl, q⟩ := q1
  subst ev
  cases r1 with
  | cons ra rr =>
  cases rr with
  | cons rb rr =>
  cases rr
  cases ra
  cases rb
  obtain ⟨its, rv, pa, _⟩ := I1.tuple hx
  obtain ⟨its2, rv2, pb, _⟩ := I1.tuple hy
  obtain ⟨o1, ho1, _⟩ := id pa
  obtain ⟨o2, ho2, _⟩ := id pb
  have D := PySem.W.ktu_apart s1.heap.objs.size a b (Heap.lt_size ho1) (Heap.lt_size ho2)
  refine call_zipT (show s1.heap.IsTuple a its.toArray from pa) (show s1.heap.IsTuple b its2.toArray from pb) fun g hz hTI hTO h1 h2 hsz hk => args_nil ?_
  have I2 : L2.Inv X pins σ H1 { s1 with heap := g } := I1.kept (t' := s1.toks) hk
  have st0 : ZS g (s1.heap.objs.size + 4) (s1.heap.objs.size + 2) (s1.heap.objs.size + 3) s1.heap.objs.size (s1.heap.objs.size + 1) a b 0 := ⟨hTI, h1, h2, ⟨_, hTO⟩, .inl ⟨hz, _, _, hTO⟩⟩
  have hf : ∀ c ∈ [s1.heap.objs.size + 4, s1.heap.objs.size + 2, s1.heap.objs.size + 3, s1.heap.objs.size, s1.heap.objs.size + 1], FpOk X pins H1 c := fun c hcm => by
    have le : s1.heap.objs.size ≤ c := by
      have e' : c = s1.heap.objs.size + 4 ∨ c = s1.heap.objs.size + 2 ∨ c = s1.heap.objs.size + 3 ∨ c = s1.heap.objs.size ∨ c = s1.heap.objs.size + 1 := by simpa using hcm
      omega
    exact I1.fpOk le (I1.hok.fresh le)
  generalize s1.heap.objs.size + 4 = z at *
  refine callType_codes (Q₁ := fun obj s₁ => obj = .ref g.objs.size ∧ s₁ = { s1 with heap := g.push { cls := .type "list", data := .seq #[] } }) PySem.F.called_list (PySem.F.typeCall_list_1 _) PySem.F.entry_list_init
    (code_list_new _ ⟨rfl, rfl⟩) fun obj s₁ h₁ => ?_
  obtain ⟨rfl, rfl⟩ := h₁
  generalize hN : g.objs.size = N
  have hS : (g.push { cls := .type "list", data := .seq #[] }).get? N = some { cls := .type "list", data := .seq #[] } := hN ▸ Heap.get?_push_size _ rfl
  refine ⟨⟨_, hS, rfl⟩, PySem.F.args_list_init_2 _ _, ?_⟩
  show wpAny _ _ (do let old ← Builtin.List.listItems (.ref N); Builtin.List.listUpdate (.ref N) (fun _ => #[]); letGo old.toList.reverse; Builtin.List.listExtendWith (.ref N) (.ref z) .none) _ _ _
  refine wpAny_bind ?_
  unfold Builtin.List.listItems; refine wpAny_bind (wpAny_seqItems hS rfl (wpAny_pure ?_))
  show wpAny _ _ (updateSeq N (fun _ => #[]) >>= fun _ => letGo (#[] : Array Value).toList.reverse >>= fun _ => Builtin.List.listExtendWith (.ref N) (.ref z) .none) _ _ _
  refine wpAny_bind (wpAny_updateSeq hS rfl ?_)
  have hS2 := Heap.get?_update_self (Obj.mapSeq (fun _ => (#[] : Array Value))) hS rfl
  have nN : g.get? N = none := by
    cases e : g.get? N with
    | none => rfl
    | some o => exact absurd hN (Nat.ne_of_gt (Heap.lt_size e))
  have oth : ∀ c o, g.get? c = some o → ((g.push { cls := .type "list", data := .seq #[] }).update N (Obj.mapSeq (fun _ => (#[] : Array Value)))).get? c = some o := fun c o e =>
    (Heap.get?_update_other _ _ (fun w : N = c => by rw [← w, nN] at e; cases e)).trans (Heap.get?_push_of_some _ e)
  have H1N : H1 N = none := I2.hok.fresh (Nat.le_of_eq hN)
  refine wpAny_bind (wpAny_letGo ?_)
  have st1 := st0.push oth
  have hf1 : ∀ c ∈ [z, s1.heap.objs.size + 2, s1.heap.objs.size + 3, s1.heap.objs.size, s1.heap.objs.size + 1], FpOk X pins (upd H1 N (.lst [])) c := fun c hcm => by
    obtain ⟨o, ho⟩ := st0.live c hcm
    exact ⟨by rw [upd_ne fun w => by rw [w, nN] at ho; cases ho]; exact (hf c hcm).1, (hf c hcm).2⟩
  have sm : ∀ c o, H1 c = some o → (upd H1 N (.lst [])) c = some o := fun c o e => by
    rw [upd_ne fun w => by rw [w, H1N] at e; cases e]
    exact e
  have tk : ∀ {c vs}, SqT X.K H1 c vs → SqT X.K (upd H1 N (.lst [])) c vs := fun {c vs} h => by
    rcases h with (h | ⟨w, h⟩) | h
    · exact .inl (.inl (sm _ _ h))
    · exact .inl (.inr ⟨w, sm _ _ h⟩)
    · exact .inr h
  obtain ⟨oz, hoz⟩ := st1.live z List.mem_cons_self
  have hT : ∀ t : Shared, t.heap = _ → t.TypeIs (.ref z) "zip" := fun t (e : t.heap = ((g.push { cls := .type "list", data := .seq #[] }).update N (Obj.mapSeq (fun _ => (#[] : Array Value))))) => by
    rcases st1.c with ⟨p, _⟩ | ⟨_, _, _, p, _⟩
    · exact ⟨_, e ▸ p, rfl⟩
    · exact ⟨_, e ▸ p, rfl⟩
  have Nz : N ≠ z := fun w => by
    obtain ⟨o, ho⟩ := st0.live z List.mem_cons_self
    rw [← w, nN] at ho
    cases ho
  unfold Builtin.List.listExtendWith
  refine wpAny_bind (wpAny_typeOf (hT _ rfl) ?_)
  rw [if_neg (by rw [show Builtin.List.listSameRef (.ref N) (.ref z) = false by simp [Builtin.List.listSameRef, Nz]]; decide)]

  refine wpAny_bind (wpAny_pyIter_zip (oth _ _ hz) ?_)
  refine wpAny_bind (wpAny_holding ?_)
  unfold Builtin.List.listLengthHint
  refine wpAny_bind (wpAny_specialOf (hT _ rfl) nolen_zip ?_)
  show wpAny _ _ (specialOf (Value.ref z) (Str.ofString "__length_hint__") >>= _) _ _ _
  refine wpAny_bind (wpAny_specialOf (hT _ rfl) nohint_zip ?_)
  refine wpAny_pure ?_
  show wpAny _ _ (rule "list.extend.makes-room" >>= fun _ => Builtin.List.listTouch (.ref N) >>= fun _ => again (.builtin "list.extend.loop" ⟨[.ref N, .ref z, .none], []⟩)) _ _ _
  refine wpAny_bind (wpAny_rule (wpAny_bind ?_))
  show wpAny _ _ (updateSeq N (·.push .none) >>= fun _ => updateSeq N (·.pop)) _ _ _
  refine wpAny_bind (wpAny_updateSeq hS2 rfl ?_)
  have hS3 := Heap.get?_update_self (Obj.mapSeq (·.push Value.none)) hS2 rfl
  refine wpAny_updateSeq (hz := by seq_fits) hS3 rfl ?_
  have hS4 := Heap.get?_update_self (Obj.mapSeq (·.pop)) hS3 rfl
  have nx : ∀ {c o}, g.get? c = some o → N ≠ c := fun {c o} e w => by rw [← w, nN] at e; cases e
  have oth2 : ∀ c o, g.get? c = some o → ((((g.push { cls := .type "list", data := .seq #[] }).update N (Obj.mapSeq (fun _ => (#[] : Array Value)))).update N (Obj.mapSeq (·.push Value.none))).update N (Obj.mapSeq (·.pop))).get? c = some o := fun c o e =>
    (Heap.get?_update_other _ _ (nx e)).trans ((Heap.get?_update_other _ _ (nx e)).trans (oth c o e))
  have I3 := I2.laid (a := N) (o := .lst []) (t' := s1.toks) oth2 (Nat.le_of_eq hN) ⟨Nat.zero_le _, [], _, .nil, hS4⟩
  refine wpAny_pure ⟨plainId_quiet F.plain_extend_loop _, ?_⟩
  refine collect (B := X.A.in1) (res := .none) D (I1.ok.hd hc) (Nat.le_trans (Nat.min_le_left _ _) (Nat.le_trans xl (by decide))) _ 0 _ _ [] rfl (Nat.zero_le _) I3 (st0.push oth2) hf1 upd_same rfl (fun m v hm => by simp at hm) (tk hx) (tk hy) fun s' H' acc' I' sb h1 h2 h3 => ⟨rfl, ?_⟩
  exact ⟨.ref N, H', I', rfl, q N acc' H' (fun c o e => sb _ _ (fun w => by rw [w, H1N] at e; cases e) (sm _ _ e)) H1N h1 h2 h3⟩
end
end Lz
/-! enumerate(xs, start=k), xs a list or a tuple, walked. -/
namespace En
open PySem PySem.Spec PyProof.Rows L2 Bx TL Dx
def ItL (K : PySem.W.Frag) (a : Addr) (k : Int) : It :=
  ⟨fun i H => ∃ (xs : List V) (x : V), SqL K H a xs ∧ xs[i]? = some x, fun i H v H' => ∃ T x, v = .ref T ∧ H T = none ∧ H' = upd H T (.tup [.int (k + (i : Nat)), x]) ∧ ∀ xs, SqL K H a xs → xs[i]? = some x, fun i H => ∃ xs : List V, SqL K H a xs ∧ xs.length = i⟩
theorem turn_L {P : Program} {w : World} {K : PySem.W.Frag} {elts : List Expr} {kk : Nat} {tpos : Pos} (k : Int) (a e it : Addr) (nai : a ≠ it) (nea : e ≠ a) (nei : e ≠ it) :
    Turn P w K (.Tuple elts kk tpos) (ItL K a k) [e, it] e (fun i h => (∃ old, IsEnum h e it (k + (i : Nat)) old) ∧ h.IsListIter it a i) where
  mem := by simp
  obj := fun i h st b hb => by
    obtain ⟨⟨old, he⟩, ⟨o, ho, hc, hd⟩⟩ := st
    have e' : b = e ∨ b = it := by simpa using hb
    rcases e' with z | z
    · rw [z]; exact ⟨_, he, fun v q => nomatch q⟩
    · rw [z]; exact ⟨o, ho, fun v q => by rw [hd] at q; cases q⟩
  keep := fun i h h' st k => let ⟨⟨old, he⟩, hi⟩ := st; ⟨⟨old, k e (by simp) _ he⟩, hi.at fun o q => k it (by simp) o q⟩
  item := by
    intro X hP hw hK hc i pins s σ H E I hf st hg
    subst hP hw hK
    obtain ⟨⟨old, he⟩, hit⟩ := st
    obtain ⟨xs, x, hq, hx⟩ := hg
    obtain ⟨its, rv, p, hz⟩ := I.list hq
    obtain ⟨u, hu, ru⟩ := rv.get hx
    have hel : e < s.heap.objs.size := Heap.lt_size he
    have hil : it < s.heap.objs.size := by obtain ⟨_, q, _⟩ := hit; exact Heap.lt_size q
    have hlt : i < its.toArray.size := by
      have := (List.getElem?_eq_some_iff.mp hu).1
      simpa using this
    have hh : X.A.in1.handled = none := I.ok.hd hc
    refine wpAny_pyNext_enum_itemC (Draws.list hh it a nai its.toArray) he ⟨hit, p.isList⟩ hlt nei (by simp [nei, nea]) fun y h' tk hy ho st' hT hsz hk => ?_
    have ey : y = u := by
      have z : its.toArray[i]? = some u := by simpa using hu
      exact Option.some.inj ((show its.toArray[i]? = some y from hy).symm.trans z)
    subst ey
    refine ⟨_, rfl, wpAny_letOwnedTupleGo_enum (s := { s with heap := h', toks := tk + 1 }) ho fun h'' he' sb => ?_⟩
    have hT2 : h''.get? s.heap.objs.size = some { cls := .type "tuple", data := .seq #[.int (k + (i : Nat)) tk, y] } := (sb.2 _ (Nat.ne_of_gt hel)).trans hT
    have new : ObjOk X.prog X.w (upd H s.heap.objs.size (.tup [.int (k + (i : Nat)), x])) h'' s.heap.objs.size (.tup [.int (k + (i : Nat)), x]) :=
      ⟨by show 2 ≤ sizeLine; decide, [.int (k + (i : Nat)) tk, y], .cons ⟨_, rfl⟩ (.cons ru .nil), ⟨_, hT2, rfl, _, rfl⟩⟩
    have I1 : Inv X pins σ (upd H s.heap.objs.size (.tup [.int (k + (i : Nat)), x])) { s with heap := h'', toks := tk + 1 } :=
      I.turnedNew (ch := [e, it]) (fun b ob hb q => (sb.2 b (fun z => hb (by simp [z]))).trans (hk b ob (fun z => hb (by simp [z])) (fun z => hb (by simp [z])) q)) hf (Nat.le_refl _) new
    refine ⟨.ref s.heap.objs.size, _, I1, rfl, ⟨_, x, rfl, I.hok.fresh (Nat.le_refl _), rfl, fun ys hy => by rw [I.list_inj hy hq]; exact hx⟩, ⟨⟨y, ?_⟩, st'.1.at fun o q => (sb.2 it (Ne.symm nei)).trans q⟩, fun b hb => ?_⟩
    · have e1 : k + ((i + 1 : Nat) : Int) = k + (i : Int) + 1 := by omega
      rw [e1]; exact he'
    · have hb' : b < s.heap.objs.size := by
        have e' : b = e ∨ b = it := by simpa using hb
        rcases e' with z | z
        · rw [z]; exact hel
        · rw [z]; exact hil
      rw [upd_ne (Nat.ne_of_lt hb')]
      exact (hf b hb).1
  done := by
    intro X hP hw hK hc i pins s σ H E I hf st hg
    subst hP hw hK
    obtain ⟨⟨old, he⟩, hit⟩ := st
    obtain ⟨xs, hq, hx⟩ := hg
    obtain ⟨its, rv, p, hz⟩ := I.list hq
    obtain ⟨f0, f1, f2, f3, f4, f5⟩ := hf it (by simp)
    have hl := rv.length
    have hh : X.A.in1.handled = none := I.ok.hd hc
    have hn : its.toArray.size = i := by
      rw [← hx, hl]
      simp
    exact wpAny_pyNext_enum_endD (Draws.list hh it a nai its.toArray) he (by rw [hn]; exact ⟨hit, p.isList⟩) fun h' eb => ⟨rfl, I.turned (t' := s.toks) (fun b o hb q => eb b o hb q) f0 f1 f3 f4 f5⟩
  self := fun A i s Q E st h => let ⟨⟨_, he⟩, _⟩ := st; wpAny_pyIter_enum he h
theorem walk_L {K : PySem.W.Frag} {a : Addr} {k : Int} {xs : List V} : Walk (ItL K a k) xs.length (fun H => SqL K H a xs) (fun i H v H' => ∃ T x, v = .ref T ∧ H T = none ∧ H' = upd H T (.tup [.int (k + (i : Nat)), x]) ∧ xs[i]? = some x) where
  goes := fun i H hi h => ⟨xs, xs[i], h, by simp [hi]⟩
  stops := fun H h => ⟨xs, h, rfl⟩
  yields := fun i H x H' hi h y => let ⟨T, v, e1, e2, e3, e4⟩ := y; ⟨T, v, e1, e2, e3, e4 xs h⟩
def ItT (K : PySem.W.Frag) (a : Addr) (k : Int) : It :=
  ⟨fun i H => ∃ (xs : List V) (x : V), SqT K H a xs ∧ xs[i]? = some x, fun i H v H' => ∃ T x, v = .ref T ∧ H T = none ∧ H' = upd H T (.tup [.int (k + (i : Nat)), x]) ∧ ∀ xs, SqT K H a xs → xs[i]? = some x, fun i H => ∃ xs : List V, SqT K H a xs ∧ xs.length = i⟩
theorem turn_T {P : Program} {w : World} {K : PySem.W.Frag} {elts : List Expr} {kk : Nat} {tpos : Pos} (k : Int) (a e it : Addr) (nai : a ≠ it) (nea : e ≠ a) (nei : e ≠ it) :
    Turn P w K (.Tuple elts kk tpos) (ItT K a k) [e, it] e (fun i h => (∃ old, IsEnum h e it (k + (i : Nat)) old) ∧ h.IsTupleIter it a i) where
  mem := by simp
  obj := fun i h st b hb => by
    obtain ⟨⟨old, he⟩, ⟨o, ho, hc, hd⟩⟩ := st
    have e' : b = e ∨ b = it := by simpa using hb
    rcases e' with z | z
    · rw [z]; exact ⟨_, he, fun v q => nomatch q⟩
    · rw [z]; exact ⟨o, ho, fun v q => by rw [hd] at q; cases q⟩
  keep := fun i h h' st k => let ⟨⟨old, he⟩, hi⟩ := st; ⟨⟨old, k e (by simp) _ he⟩, hi.at fun o q => k it (by simp) o q⟩
  item := by
    intro X hP hw hK hc i pins s σ H E I hf st hg
    subst hP hw hK
    obtain ⟨⟨old, he⟩, hit⟩ := st
    obtain ⟨xs, x, hq, hx⟩ := hg
    obtain ⟨its, rv, p, hz⟩ := I.tuple hq
    obtain ⟨u, hu, ru⟩ := rv.get hx
    have hel : e < s.heap.objs.size := Heap.lt_size he
    have hil : it < s.heap.objs.size := by obtain ⟨_, q, _⟩ := hit; exact Heap.lt_size q
    have hlt : i < its.toArray.size := by
      have := (List.getElem?_eq_some_iff.mp hu).1
      simpa using this
    have hh : X.A.in1.handled = none := I.ok.hd hc
    refine wpAny_pyNext_enum_itemC (Draws.tuple hh it a nai its.toArray) he ⟨hit, (show s.heap.IsTuple a its.toArray from p)⟩ hlt nei (by simp [nei, nea]) fun y h' tk hy ho st' hT hsz hk => ?_
    have ey : y = u := by
      have z : its.toArray[i]? = some u := by simpa using hu
      exact Option.some.inj ((show its.toArray[i]? = some y from hy).symm.trans z)
    subst ey
    refine ⟨_, rfl, wpAny_letOwnedTupleGo_enum (s := { s with heap := h', toks := tk + 1 }) ho fun h'' he' sb => ?_⟩
    have hT2 : h''.get? s.heap.objs.size = some { cls := .type "tuple", data := .seq #[.int (k + (i : Nat)) tk, y] } := (sb.2 _ (Nat.ne_of_gt hel)).trans hT
    have new : ObjOk X.prog X.w (upd H s.heap.objs.size (.tup [.int (k + (i : Nat)), x])) h'' s.heap.objs.size (.tup [.int (k + (i : Nat)), x]) :=
      ⟨by show 2 ≤ sizeLine; decide, [.int (k + (i : Nat)) tk, y], .cons ⟨_, rfl⟩ (.cons ru .nil), ⟨_, hT2, rfl, _, rfl⟩⟩
    have I1 : Inv X pins σ (upd H s.heap.objs.size (.tup [.int (k + (i : Nat)), x])) { s with heap := h'', toks := tk + 1 } :=
      I.turnedNew (ch := [e, it]) (fun b ob hb q => (sb.2 b (fun z => hb (by simp [z]))).trans (hk b ob (fun z => hb (by simp [z])) (fun z => hb (by simp [z])) q)) hf (Nat.le_refl _) new
    refine ⟨.ref s.heap.objs.size, _, I1, rfl, ⟨_, x, rfl, I.hok.fresh (Nat.le_refl _), rfl, fun ys hy => by rw [I.tuple_inj hy hq]; exact hx⟩, ⟨⟨y, ?_⟩, st'.1.at fun o q => (sb.2 it (Ne.symm nei)).trans q⟩, fun b hb => ?_⟩
    · have e1 : k + ((i + 1 : Nat) : Int) = k + (i : Int) + 1 := by omega
      rw [e1]; exact he'
    · have hb' : b < s.heap.objs.size := by
        have e' : b = e ∨ b = it := by simpa using hb
        rcases e' with z | z
        · rw [z]; exact hel
        · rw [z]; exact hil
      rw [upd_ne (Nat.ne_of_lt hb')]
      exact (hf b hb).1
  done := by
    intro X hP hw hK hc i pins s σ H E I hf st hg
    subst hP hw hK
    obtain ⟨⟨old, he⟩, hit⟩ := st
    obtain ⟨xs, hq, hx⟩ := hg
    obtain ⟨its, rv, p, hz⟩ := I.tuple hq
    obtain ⟨f0, f1, f2, f3, f4, f5⟩ := hf it (by simp)
    have hl := rv.length
    have hh : X.A.in1.handled = none := I.ok.hd hc
    have hn : its.toArray.size = i := by
      rw [← hx, hl]
      simp
    exact wpAny_pyNext_enum_endD (Draws.tuple hh it a nai its.toArray) he (by rw [hn]; exact ⟨hit, (show s.heap.IsTuple a its.toArray from p)⟩) fun h' eb => ⟨rfl, I.turned (t' := s.toks) (fun b o hb q => eb b o hb q) f0 f1 f3 f4 f5⟩
  self := fun A i s Q E st h => let ⟨⟨_, he⟩, _⟩ := st; wpAny_pyIter_enum he h
theorem walk_T {K : PySem.W.Frag} {a : Addr} {k : Int} {xs : List V} : Walk (ItT K a k) xs.length (fun H => SqT K H a xs) (fun i H v H' => ∃ T x, v = .ref T ∧ H T = none ∧ H' = upd H T (.tup [.int (k + (i : Nat)), x]) ∧ xs[i]? = some x) where
  goes := fun i H hi h => ⟨xs, xs[i], h, by simp [hi]⟩
  stops := fun H h => ⟨xs, h, rfl⟩
  yields := fun i H x H' hi h y => let ⟨T, v, e1, e2, e3, e4⟩ := y; ⟨T, v, e1, e2, e3, e4 xs h⟩
theorem callWith_typeKw {M : Model} {A : Around} {E : Value → Shared → Prop} {s : Shared} {pos : Pos} {T : String} {first : List Value} {args : List (Bool × Sem Value)} {keywords : List (Option Str × Sem Value)} {Q : Value → Shared → Prop}
    (hplain : args.any (·.1) = false) (hkw : keywords.any (·.1.isNone) = false)
    (h : wpAny M A (evalArgs (.type T) true args keywords) (fun a s₁ => wpAny M A (call (.type T) (first ++ a.pos) a.kw) Q E s₁) E s) :
    wpAny M A (callWith pos (.type T) first args keywords) Q E s := by
  unfold callWith
  refine wpAny_bind (wpAny_holding (wpAny_mono h (fun a s₁ h₁ => wpAny_bind (wpAny_standAt ?_)) fun _ _ x => x))
  simp only [hplain, hkw, Bool.or_false]
  refine wpAny_bind (wpAny_pure ?_)
  exact wpAny_bind (wpAny_mono h₁ (fun r s₂ hr => wpAny_bind (wpAny_holding (wpAny_point (wpAny_pure hr)))) fun _ _ x => x)
/-- a list or a tuple -/
def EnCase (K : PySem.W.Frag) (a : Addr) (k : Int) (H : Hp) (R : It → Hp → Prop) : Prop := ((∃ xs, SqL K H a xs) ∧ R (ItL K a k) H) ∨ ((∃ xs, SqT K H a xs) ∧ R (ItT K a k) H)
def iEnS (K : PySem.W.Frag) (ta tk : TA) : TI := fun σ H R => ta σ H fun vs H1 => tk σ H1 fun zs H2 => ∃ (a : Addr) (k : Int), vs = [.ref a] ∧ zs = [.int k] ∧ -(2 ^ 63) ≤ k ∧ k < 2 ^ 63 ∧ EnCase K a k H2 R
theorem pi_enS {X : Cx} {e : Expr} {ta tk : TA} {p pos tpos : Pos} {elts : List Expr} {kk : Nat} {kws : List Keyword} (hg : Gl X "enumerate") (hm : X.mg "enumerate" = none) (ha : PA X [e] ta) (hkw : PK X kws tk) (hall : (backToKw pos (keywordEach kws X.env)).all (·.1.isSome) = true := by rfl)
    (hks : (backToKw pos (keywordEach kws X.env)).filterMap (·.1) = [(("start" : Str))] := by rfl) (he : starEach [e] X.env = (false, eval e X.env) :: starEach [] X.env := by rfl)
    (hpl : (backTo pos (starEach [e] X.env)).any (·.1) = false := by rfl) (hkn : (backToKw pos (keywordEach kws X.env)).any (·.1.isNone) = false := by rfl) :
    PI X (.Tuple elts kk tpos) (.Call (.Name "enumerate" p) [e] kws pos) (iEnS X.K ta tk) := by
  refine ⟨fun pins s σ H R I h => ?_⟩
  refine wpAny_Call_Name_kw (ld_blt I hg hm boot_enumerate ?_)
  refine callWith_typeKw hpl hkn ?_
  have run := ha.run pos pins s σ H _ I h
  obtain ⟨x, rest, hx⟩ : ∃ x rest, backTo pos (starEach [e] X.env) = (false, x) :: rest := ⟨_, _, by rw [he]; rfl⟩
  rw [hx] at run ⊢
  refine evalArgs_kwB hall (thn run fun us s1 ⟨vs, H1, I1, r1, q⟩ => ?_)
  refine thn (hkw.run pos pins s1 σ H1 _ I1 q) fun ws s2 ⟨zs, H2, I2, rz, a, k, ev, ez, k0, k1, q2⟩ => ?_
  rw [hks]
  subst ev ez
  cases r1 with
  | cons r rr =>
    cases rr
    cases r
    cases rz with
    | cons rk rr2 =>
      cases rr2
      obtain ⟨tk', rfl⟩ := rk
      show wpAny _ _ (call (.type "enumerate") [.ref a] [((("start" : Str)), .int k tk')]) _ _ _
      have hle : s2.heap.objs.size ≤ s2.heap.objs.size := Nat.le_refl _
      have fp : ∀ b, b = s2.heap.objs.size + 1 ∨ b = s2.heap.objs.size → FpOk X pins H2 b := fun b e' => by
        have hle : s2.heap.objs.size ≤ b := by
          rcases e' with z | z
          · rw [z]; exact Nat.le_add_right _ _
          · rw [z]; exact Nat.le_refl _
        exact I2.fpOk hle (I2.hok.fresh hle)
      rcases q2 with ⟨⟨xs, hq⟩, q2⟩ | ⟨⟨xs, hq⟩, q2⟩
      · obtain ⟨its, rv, p', hz⟩ := I2.list hq
        have ha : a < s2.heap.objs.size := by
          obtain ⟨o, ho, _⟩ := p'.isList
          exact Heap.lt_size ho
        refine enum_begins_start (begins_list a its.toArray) p'.isList k0 k1 fun h' hen hit hsz hk => wpAny_pyIter_enum hen ?_
        have I3 : Inv X pins σ H2 { s2 with heap := h' } := I2.kept (t' := s2.toks) hk
        exact ⟨s2.heap.objs.size + 1, [s2.heap.objs.size + 1, s2.heap.objs.size], _, _, H2, rfl, I3, turn_L k a (s2.heap.objs.size + 1) s2.heap.objs.size (Nat.ne_of_lt ha) (Nat.ne_of_gt (Nat.lt_succ_of_lt ha)) (Nat.succ_ne_self _), ⟨⟨.none, by rw [show k + ((0 : Nat) : Int) = k by omega]; exact hen⟩, ⟨_, hit, rfl, rfl⟩⟩, fun b hb => fp b (by simpa using hb), q2⟩
      · obtain ⟨its, rv, p', hz⟩ := I2.tuple hq
        have p2 : s2.heap.IsTuple a its.toArray := p'
        have ha : a < s2.heap.objs.size := by
          obtain ⟨o, ho, _⟩ := p2
          exact Heap.lt_size ho
        refine enum_begins_start (begins_tuple a its.toArray) p2 k0 k1 fun h' hen hit hsz hk => wpAny_pyIter_enum hen ?_
        have I3 : Inv X pins σ H2 { s2 with heap := h' } := I2.kept (t' := s2.toks) hk
        exact ⟨s2.heap.objs.size + 1, [s2.heap.objs.size + 1, s2.heap.objs.size], _, _, H2, rfl, I3, turn_T k a (s2.heap.objs.size + 1) s2.heap.objs.size (Nat.ne_of_lt ha) (Nat.ne_of_gt (Nat.lt_succ_of_lt ha)) (Nat.succ_ne_self _), ⟨⟨.none, by rw [show k + ((0 : Nat) : Int) = k by omega]; exact hen⟩, ⟨_, hit, rfl, rfl⟩⟩, fun b hb => fp b (by simpa using hb), q2⟩
/-- what such a walk gives at turn i -/
def YEn (k : Int) (xs : List V) : Nat → Hp → V → Hp → Prop := fun i H v H' => ∃ T x, v = .ref T ∧ H T = none ∧ H' = upd H T (.tup [.int (k + (i : Nat)), x]) ∧ xs[i]? = some x
theorem en_case {K : PySem.W.Frag} {H : Hp} {a : Addr} {k : Int} {xs : List V} {R : It → Hp → Prop} (h : SqL K H a xs ∨ SqT K H a xs) (c : ∀ (J : It) (G : Hp → Prop), Walk J xs.length G (YEn k xs) → (∀ H', Same H H' → G H') → R J H) :
    EnCase K a k H R := by
  rcases h with h | h
  · exact .inl ⟨⟨_, h⟩, c _ _ walk_L fun H' s => s.seq h⟩
  · exact .inr ⟨⟨_, h⟩, c _ _ walk_T fun H' s => Bx.Same.tup s h⟩
end En
/-! enumerate(t), t a tuple, walked. -/
namespace En
open PySem PySem.Spec PyProof.Rows L2 Bx TL Dx PySem.W
/-- the new enumerate object over an iterator at it, from 0 on -/
abbrev enO (it : Addr) : Obj := { cls := .type "enumerate", data := .fields #[.none, .bool false, .ref it, rawInt 0, .none, .none] }
set_option maxHeartbeats 1000000 in
theorem meets_one {v : Value} {o : Obj} {Hh : PySem.Heap → Prop} (B : Begins v o Hh) :
    Meets (Builtin.«enumerate.__new__» ⟨[.type "enumerate", v], []⟩) (fun _ R s => Hh s.heap ∧ R (.ok (.ret (.ref (s.heap.push o).objs.size))) { s with heap := (s.heap.push o).push (enO s.heap.objs.size) }) :=
  .of_wp fun prog w A R s hyp => by
    obtain ⟨hp, gn, dr, tk, os⟩ := s
    obtain ⟨h1, h2⟩ := hyp
    have hsub := sub_enumerate
    have walk1 : ∀ {A2 : Around} {E2 : Value → Shared → Prop} {Q2 : Value → Shared → Prop}, Q2 (.ref hp.objs.size) ⟨hp.push o, gn, dr, tk, os⟩ → wpAny (model prog w) A2 (pyIter v) Q2 E2 ⟨hp, gn, dr, tk, os⟩ := fun q2 => B.iter prog w _ _ ⟨hp, gn, dr, tk, os⟩ _ h1 q2
    have fin := h2
    wp_walk using walk1
    refine wpAny_stack_any fun stk => wpAny_pure ?_
    split
    · rename_i cx _ _ _ _ _
      cases (cx == Value.type "enumerate") <;> (wp_walk using walk1; exact ⟨_, rfl, fin⟩)
    · (wp_walk using walk1; exact ⟨_, rfl, fin⟩)
section
variable {P : Program} {w : World} {A : Around} {E : Value → Shared → Prop} {s : Shared}
theorem begins_one {v : Value} {o : Obj} {Hh : PySem.Heap → Prop} {Q : Value → Shared → Prop} (B : Begins v o Hh) (h1 : Hh s.heap)
    (hq : ∀ h2, IsEnum h2 (s.heap.objs.size + 1) s.heap.objs.size 0 .none → h2.get? s.heap.objs.size = some o → (∀ b u, s.heap.get? b = some u → h2.get? b = some u) → Q (.ref (s.heap.objs.size + 1)) { s with heap := h2 }) :
    wpAny (model P w) A (call (.type "enumerate") [v]) Q E s := by
  refine callType_new F.called_enumerate (by decide) (F.typeCall_enumerate_1 _) (F.newCall_enumerate_1 _) (fun ob => F.args_object_init_2 ob _) F.entry_enumerate_new (meets_one B) ⟨h1, ?_⟩
  have sz1 : (s.heap.push o).objs.size = s.heap.objs.size + 1 := Heap.size_push ..
  show _ ∧ _
  rw [sz1]
  have en : IsEnum ((s.heap.push o).push (enO s.heap.objs.size)) (s.heap.objs.size + 1) s.heap.objs.size 0 .none := by
    have z := Heap.get?_push_size (s.heap.push o) (o := enO s.heap.objs.size) rfl
    rwa [sz1] at z
  exact ⟨⟨_, en, rfl⟩, hq _ en (Heap.get?_push_of_some _ (Heap.get?_push_size _ B.free)) fun b u x => Heap.get?_push_of_some _ (Heap.get?_push_of_some _ x)⟩
end
def iEnT (K : PySem.W.Frag) (ta : TA) : TI := fun σ H R => ta σ H fun vs H1 => ∃ a xs, vs = [.ref a] ∧ SqT K H1 a xs ∧ R (ItT K a 0) H1
theorem pi_enT {X : Cx} {e : Expr} {ta : TA} {p pos tpos : Pos} {elts : List Expr} {kk : Nat} (hg : Gl X "enumerate") (hm : X.mg "enumerate" = none) (ha : PA X [e] ta) (hs : starEach [e] X.env = [(false, eval e X.env)] := by rfl) :
    PI X (.Tuple elts kk tpos) (.Call (.Name "enumerate" p) [e] [] pos) (iEnT X.K ta) := by
  refine ⟨fun pins s σ H R I h => ?_⟩
  refine Call_ (ld_blt I hg hm boot_enumerate (PyProof.Rows.callWith_type1 (thn (ha.run pos pins s σ H _ I h) fun us s1 ⟨vs, H1, I1, r1, q1⟩ => ?_) hs rfl))
  obtain ⟨a, xs, ex, hq, q⟩ := q1
  subst ex
  cases r1 with
  | cons r rr =>
    cases rr
    cases r
    obtain ⟨its, rv, pt, hz⟩ := I1.tuple hq
    have p2 : s1.heap.IsTuple a its.toArray := pt
    have hlt : a < s1.heap.objs.size := by
      obtain ⟨o, ho, _⟩ := p2
      exact Heap.lt_size ho
    refine begins_one (begins_tuple a its.toArray) p2 fun h2 hen hit hk => wpAny_pyIter_enum hen ?_
    have I2 : Inv X pins σ H1 { s1 with heap := h2 } := I1.kept (t' := s1.toks) hk
    refine ⟨s1.heap.objs.size + 1, [s1.heap.objs.size + 1, s1.heap.objs.size], _, _, H1, rfl, I2, turn_T 0 a (s1.heap.objs.size + 1) s1.heap.objs.size (Nat.ne_of_lt hlt) (Nat.ne_of_gt (Nat.lt_succ_of_lt hlt)) (Nat.succ_ne_self _), ⟨⟨.none, by rw [show (0 : Int) + ((0 : Nat) : Int) = 0 by omega]; exact hen⟩, ⟨_, hit, rfl, rfl⟩⟩, fun b hb => ?_, q⟩
    have hle : s1.heap.objs.size ≤ b := by
      rcases (show b = s1.heap.objs.size + 1 ∨ b = s1.heap.objs.size by simpa using hb) with z | z
      · rw [z]; exact Nat.le_add_right _ _
      · rw [z]; exact Nat.le_refl _
    exact I1.fpOk hle (I1.hok.fresh hle)
end En
/-! {**d, k: v}, and min(xs, default=v). -/
namespace Dd
open PySem PySem.Spec PyProof.Rows L2 Bx TL
open Sem (wp)
section
variable {prog : Program} {w : World} {κ : Type} [DecidableEq κ] {knd : PySem.KeyKind prog w κ} {A : Around} {E : Value → Shared → Prop} {s : Shared}
theorem put_pairs {d : Addr} {kvs : List (κ × Value)} {k : κ} {key v : Value} {Q : Unit → Shared → Prop} (hkey : knd.is k key = true) (hm : s.heap.DictOf knd d kvs)
    (hQ : ∀ h', h'.DictOf knd d (PySem.stored kvs k v) → Heap.SameBut d s.heap h' → Q () { s with heap := h' }) (hsz : kvs.length ≤ sizeLine) :
    wpAny (model prog w) A (dictPut d (knd.hash k) key v) Q E s := by
  obtain ⟨o, es, ep, ho, hc, hd, hk, hp, hn⟩ := hm
  have hes : es.size ≤ sizeLine := by
    have e1 := hp.length
    have e2 : es.toList.length = es.size := by simp
    omega
  unfold dictPut
  refine wpAny_bind (PySem.wpAny_dictFind_of hkey ho hd hk ?_)
  have hidx : (es.findIdx? fun e => knd.is k e.key) = kvs.findIdx? fun kv => decide (kv.1 = k) := by
    rw [← hp.findIdx k]; obtain ⟨l⟩ := es; simp
  cases hi : es.findIdx? fun e => knd.is k e.key with
  | some i =>
    refine wpAny_updateDict ho hd (hQ _ ⟨_, _, ep, Heap.get?_update_self _ ho (Obj.isFreed_of_dict (Obj.data_mapDict hd _)), hc.mapDict _, Obj.data_mapDict hd _, hk.modify _ _, ?_, ?_⟩ (Heap.SameBut.update ..))
    · rw [PySem.stored, if_pos (PySem.any_of_findIdx_some (hidx ▸ hi))]
      have hl : (es.toList.findIdx? fun e => knd.is k e.key) = some i := by rw [← hi]; obtain ⟨l⟩ := es; simp
      have := hp.modify hn hl v
      obtain ⟨l⟩ := es
      simpa using this
    · rw [PySem.stored, if_pos (PySem.any_of_findIdx_some (hidx ▸ hi)), PySem.keys_map_store]; exact hn
  | none =>
    have hnot : k ∉ kvs.map (·.1) := PySem.not_mem_of_findIdx_none (hidx ▸ hi)
    have hany : ¬ (kvs.any fun kv => decide (kv.1 = k)) = true := by
      rw [List.any_eq_true]; rintro ⟨kv, hkv, he⟩
      exact hnot (List.mem_map.mpr ⟨kv, hkv, of_decide_eq_true he⟩)
    refine wpAny_updateDictKeys (hz := hes) ho hd (hQ _ ⟨_, _, ep + 1, Heap.get?_update_self _ ho (Obj.isFreed_of_dict (Obj.data_mapDictKeys hd _)), hc.mapDictKeys _, Obj.data_mapDictKeys hd _, hk.push hkey _, ?_, ?_⟩ (Heap.SameBut.update ..))
    · rw [PySem.stored, if_neg hany]
      have := hp.append hkey (knd.hash k) v
      obtain ⟨l⟩ := es
      simpa using this
    · rw [PySem.stored, if_neg hany, List.map_append, List.nodup_append]
      refine ⟨hn, by simp, ?_⟩
      intro a ha b hb
      simp only [List.map_cons, List.map_nil, List.mem_singleton] at hb
      subst hb
      exact fun e => hnot (e ▸ ha)
theorem merge_map {d o : Addr} {kvs more : List (κ × Value)} {Q : Unit → Shared → Prop} (hdo : d ≠ o) (hoS : (o == sysModules) = false)
    (hd : s.heap.DictOf knd d kvs) (ho : s.heap.DictOf knd o more)
    (hQ : ∀ h', h'.DictOf knd d (PySem.merged kvs more) → Heap.SameBut d s.heap h' → Q () { s with heap := h' })
    (hsz : kvs.length + more.length ≤ sizeLine) :
    wpAny (model prog w) A (mergeMapping d (.ref o) false) Q E s := by
  obtain ⟨od, esd, epd, hod, hcd, hdd, hkd, hpd, hnd⟩ := id hd
  obtain ⟨oo, eso, epo, hoo, hco, hdo', hko, hpo, hno⟩ := id ho
  have hlen : more.length = eso.size := by rw [← hpo.length]; simp
  unfold mergeMapping
  refine wpAny_bind (wpAny_isInstance ho.typeIs isSubtype_dict_dict ?_)
  simp only [if_true]
  refine wpAny_bind (wpAny_specialOf ho.typeIs F.slot_dict_iter.lookup (wpAny_bind (wpAny_pure ?_)))
  show wpAny _ _ (if (o == sysModules) = true then _ else _) _ _ _
  rw [if_neg (by rw [hoS]; exact Bool.false_ne_true)]
  have fin : wpAny (model prog w) A (do
      let size := (← dictEntries o).size
      let epoch ← dictEpoch o
      for i in List.range size do
        let some e := (← dictEntries o)[i]? | unsupported "dict.changed-during-merge"
        holding [e.key, e.val] do
          dictPut d e.hash e.key e.val
        if (← dictEpoch o) != epoch then unsupported "dict.changed-during-merge") Q E s := by
    refine wpAny_bind (wpAny_dictEntries hoo hdo' ?_)
    refine wpAny_bind (wpAny_dictEpoch hoo hdo' ?_)
    refine wpAny_bind (wpAny_forIn_list _
      (fun rest _ s' => ∃ h' i, s' = { s with heap := h' } ∧ rest = List.range' i (eso.size - i) ∧ i ≤ eso.size ∧ h'.DictOf knd d (PySem.merged kvs (more.take i)) ∧ h'.get? o = some oo ∧ Heap.SameBut d s.heap h')
      (fun _ s' => wpAny (model prog w) A (pure ()) Q E s') ?_ ?_ (List.range eso.size) _ ⟨s.heap, 0, rfl, by rw [Nat.sub_zero, List.range_eq_range'], Nat.zero_le _, by simpa [PySem.merged] using hd, hoo, Heap.SameBut.refl _ _⟩)
    · rintro x rest b s' ⟨h', i, rfl, hr, hi, hd', hoo', hs'⟩
      have hlt : i < eso.size := by
        rcases Nat.lt_or_ge i eso.size with h | h
        · exact h
        · rw [Nat.sub_eq_zero_of_le h] at hr; simp at hr
      obtain ⟨rfl, hrest⟩ : x = i ∧ rest = List.range' (i + 1) (eso.size - (i + 1)) := by
        have e : eso.size - i = (eso.size - (i + 1)) + 1 := by omega
        rw [e, List.range'_succ] at hr
        injection hr with h1 h2
        exact ⟨h1, h2⟩
      refine wpAny_bind (wpAny_dictEntries hoo' hdo' ?_)
      rw [Array.getElem?_eq_getElem hlt]
      obtain ⟨kv, hkv⟩ : ∃ kv, more[x]? = some kv := ⟨more[x]'(by rw [hlen]; exact hlt), List.getElem?_eq_getElem _⟩
      obtain ⟨k, v⟩ := kv
      obtain ⟨hkey, hval⟩ := hpo.get? (e := eso[x]) (by simp [hlt]) hkv
      obtain ⟨k', hkey', hhash⟩ := hko eso[x] (Array.getElem_mem hlt)
      obtain rfl : k' = k := knd.inj _ _ _ hkey' hkey
      show wpAny _ _ (holding [eso[x].key, eso[x].val] (dictPut d eso[x].hash eso[x].key eso[x].val) >>= _) _ _ _
      rw [hhash, hval]
      have hmx : (PySem.merged kvs (more.take x)).length ≤ sizeLine := by
        have e1 := PySem.merged_length_le kvs (more.take x)
        have e2 : (more.take x).length ≤ more.length := by rw [List.length_take]; omega
        omega
      refine wpAny_bind (wpAny_holding (put_pairs (hsz := hmx) hkey hd' fun h'' hd'' hs'' => ?_))
      have hoo'' : h''.get? o = some oo := (hs''.2 o (Ne.symm hdo)).trans hoo'
      refine wpAny_bind (wpAny_dictEpoch hoo'' hdo' ?_)
      rw [if_neg (by simp)]
      exact wpAny_pure ⟨h'', x + 1, rfl, hrest, hlt, by rw [PySem.merged_take_succ kvs more x (k', v) hkv]; exact hd'', hoo'', hs'.trans hs''⟩
    · rintro b s' ⟨h', i, rfl, hr, hi, hd', hoo', hs'⟩
      have hin : i = eso.size := by
        rcases Nat.lt_or_ge i eso.size with h | h
        · have e : eso.size - i = (eso.size - (i + 1)) + 1 := by omega
          rw [e, List.range'_succ] at hr; exact nomatch hr
        · exact Nat.le_antisymm hi h
      rw [hin, ← hlen, List.take_length] at hd'
      exact wpAny_pure (hQ h' hd' hs')
  refine wpAny_bind (wpAny_dictEntries hod hdd ?_)
  have noref : ∀ e ∈ eso, ∀ a, e.key ≠ .ref a := fun e he a ea => by
    obtain ⟨k, hk, _⟩ := hko e he
    have := knd.byValue k _ hk
    rw [ea] at this
    cases this
  by_cases hemp : esd.isEmpty = true
  · rw [if_pos hemp]
    refine wpAny_bind (wpAny_dictEntries hoo hdo' ?_)
    refine wpAny_bind ?_
    rw [← Array.forIn_toList]
    refine wpAny_forIn_list _ (fun rest _ s' => s' = s ∧ ∀ e ∈ rest, e ∈ eso) _ ?_ ?_ _ _ ⟨rfl, fun e he => Array.mem_toList_iff.mp he⟩
    · rintro e rest b s' ⟨rfl, hin⟩
      have he := hin e (List.mem_cons_self ..)
      have hno' := noref e he
      cases ek : e.key with
      | ref a => exact absurd ek (hno' a)
      | _ => exact wpAny_pure ⟨rfl, fun e' h' => hin e' (List.mem_cons_of_mem _ h')⟩
    · rintro b s' ⟨rfl, _⟩
      exact fin
  · rw [if_neg hemp]
    exact fin
end
end Dd
namespace Dd
open PySem PySem.Spec PyProof.Rows L2 Bx TL
/-- {**e, k: v} -/
def tDStar (te tk tv : TE) : TE := fun σ H Q => ∀ p, H p = none → te σ (upd H p (.dK [])) fun x H1 => ∃ a kvs, x = .ref a ∧ H1 a = some (.dK kvs) ∧ a ≠ p ∧ H1 p = some (.dK []) ∧ kvs.length + 1 ≤ sizeLine ∧
  ∀ p2, (upd H1 p (.dK kvs)) p2 = none → tPairs [(tk, tv)] σ (upd (upd H1 p (.dK kvs)) p2 (.dK [])) fun ps H3 => ∃ k z, ps = [(kV k, z)] ∧ H3 p = some (.dK kvs) ∧ H3 p2 = some (.dK []) ∧ Q (.ref p) (upd (upd H3 p2 (.dK [(k, z)])) p (.dK (putK kvs k z)))
theorem pe_dstar {X : Cx} {e k v : Expr} {te tk tv : TE} {pos : Pos} (he : PE X e te) (hk : PE X k tk) (hv : PE X v tv) : PE X (.Dict [none, some k] [e, v] pos) (tDStar te tk tv) := by
  refine ⟨fun pins s σ H Q I q => ?_⟩
  rw [arm_eval_Dict]
  refine wpAny_bind (wpAny_standAt ?_)
  show wpAny _ _ (dictDisplay [(none, do let x ← eval e X.env; standAt pos; pure x), (some (eval k X.env), do let x ← eval v X.env; standAt pos; pure x)]) _ _ _
  unfold dictDisplay
  simp only [List.forIn_cons, List.forIn_nil, List.isEmpty_nil, if_true, pure_bind, List.nil_append, List.length_cons, List.length_nil]
  have hp0 := I.hok.fresh (Nat.le_refl s.heap.objs.size)
  have I1 := I.laid (a := s.heap.objs.size) (o := .dK []) (h' := s.heap.push { cls := .type "dict", data := .dict #[] }) (t' := s.toks) (fun _ _ z => Heap.get?_push_of_some _ z) (Nat.le_refl _) (dk_empty s.heap I.big)
  refine wpAny_bind (wpAny_bind (wpAny_bind (wpAny_alloc (wpAny_bind (wpAny_holding (wpAny_bind (thn (he.run pins _ σ _ _ I1 (q _ hp0)) fun u s1 ⟨x, H1, I2, r1, a, kvs, ex, ea, nap, ep, hz, q1⟩ => ?_)))))))
  refine wpAny_bind (wpAny_standAt (wpAny_pure ?_))
  subst ex
  obtain rfl : u = Value.ref a := r1
  obtain ⟨z0, hd0, vs0, r0, dd0⟩ := dk_of I2.hok ep
  cases r0
  obtain ⟨za, hda, vsa, ra, dda⟩ := dk_of I2.hok ea
  have len : kvs.length = vsa.length := ra.length
  have nd : (vsa.map (·.1)).Nodup := by
    obtain ⟨_, _, _, _, _, _, _, _, hn⟩ := dda
    exact hn
  refine wpAny_bind (wpAny_onRaise (wpAny_tryCatch (wpAny_onRaise (wpAny_holding (merge_map (Ne.symm nap) hda dd0 dda (fun h1 m1 sb1 => ?_) (by rw [List.length_nil]; omega))))))
  rw [PySem.merged_nil_of_nodup _ nd] at m1
  have hp1 : ∃ z, h1.get? s.heap.objs.size = some z := let ⟨z, _, _, hq, _⟩ := m1; ⟨z, hq⟩
  have I3 : L2.Inv X pins σ (upd H1 s.heap.objs.size (.dK kvs)) { s1 with heap := h1 } := d_write (t' := s1.toks) I2 (by rw [ep]; exact True.intro) sb1 hp1 (dk_new (by omega) hd0 ra m1)
  refine wpAny_pure (wpAny_pure (wpAny_bind ?_))
  show wpAny _ _ (holding [.ref s.heap.objs.size] (subDict (pairTrees [some k] [v] X.env pos)) >>= _) _ _ _
  have hp2 := I3.hok.fresh (Nat.le_refl h1.objs.size)
  have np12 : s.heap.objs.size ≠ h1.objs.size := fun z => by
    obtain ⟨o, ho⟩ := hp1
    exact Nat.ne_of_lt (PySem.Heap.lt_size ho) z
  have I4 := I3.laid (a := h1.objs.size) (o := .dK []) (h' := h1.push { cls := .type "dict", data := .dict #[] }) (t' := s1.toks) (fun _ _ z => Heap.get?_push_of_some _ z) (Nat.le_refl _) (dk_empty h1 I3.big)
  refine wpAny_bind (wpAny_holding (wpAny_subDict (knd := mixKind X.prog X.w) (by show 1 ≤ 15; decide) (thn ((pps_cons (pos := pos) hk hv pps_nil).run pins _ σ _ _ I4 (q1 _ hp2)) fun ws s2 ⟨ps, H3, I5, rel, kk, z, eps, e1, e2, q2⟩ => ?_)))
  subst eps
  obtain ⟨rs, cr, rk⟩ := carries_of (P := X.prog) (w := X.w) (kvs := [(kk, z)]) rel
  obtain ⟨z2, hd2, vs2, r2, dd2⟩ := dk_of I5.hok e2
  cases r2
  refine ⟨rs, cr, dd2, fun h2 m2 sb2 => ?_⟩
  have n2 : (rs.map (·.1)).Nodup := by
    have ek := rk.keys
    rw [← ek]
    exact List.nodup_cons.mpr ⟨List.not_mem_nil, List.nodup_nil⟩
  rw [PySem.merged_nil_of_nodup _ n2] at m2
  have hp3 : ∃ z, h2.get? h1.objs.size = some z := let ⟨z, _, _, hq, _⟩ := m2; ⟨z, hq⟩
  have I6 : L2.Inv X pins σ (upd H3 h1.objs.size (.dK [(kk, z)])) { s2 with heap := h2, toks := s2.toks + ws.length } := d_write I5 (by rw [e2]; exact True.intro) sb2 hp3 (dk_new (by rw [sizeLine_eq]; show 1 ≤ 16777216; decide) hd2 rk m2)
  have e3 : (upd H3 h1.objs.size (.dK [(kk, z)])) s.heap.objs.size = some (.dK kvs) := by rw [upd_ne np12]; exact e1
  obtain ⟨z3, hd3, vs3, r3, dd3⟩ := dk_of I6.hok e3
  refine wpAny_bind (wpAny_onRaise (wpAny_holding (merge_map np12 hd2 dd3 m2 (fun h3 m3 sb3 => ?_) ?_)))
  · obtain ⟨rv, rs2⟩ : ∃ rv, rs = [(kk, rv)] ∧ RelV z rv := by
      cases rk with
      | cons h t =>
        cases t
        obtain ⟨h1, h2⟩ := h
        exact ⟨_, congrArg (fun z => [z]) (Prod.ext h1.symm rfl), h2⟩
    obtain ⟨rfl, rzv⟩ := rs2
    have hp4 : ∃ z, h3.get? s.heap.objs.size = some z := let ⟨z, _, _, hq, _⟩ := m3; ⟨z, hq⟩
    refine wpAny_pure (wpAny_pure ⟨.ref s.heap.objs.size, _, d_write (t' := s2.toks + ws.length) I6 (by rw [e3]; exact True.intro) sb3 hp4 (dk_new ?_ hd3 (r3.put kk rzv) m3), rfl, q2⟩)
    have := length_putK kvs kk z
    omega
  · have l3 : kvs.length = vs3.length := r3.length
    have l4 : [(kk, z)].length = rs.length := rk.length
    have l5 : [(kk, z)].length = 1 := rfl
    omega
end Dd
/-! enumerate(x), x a list or a tuple; {**d, **e} where e has one pair. -/
namespace Ds
open PySem PySem.Spec PyProof.Rows L2 Bx TL Dx PySem.W En
section
variable {X : Cx}
def EnS (K : PySem.W.Frag) (a : Addr) (xs : List V) (H : Hp) (R : It → Hp → Prop) : Prop := (SqL K H a xs ∧ R (Ite K a) H) ∨ (SqT K H a xs ∧ R (ItT K a 0) H)
theorem enS_case {K : PySem.W.Frag} {H : Hp} {a : Addr} {xs : List V} {R : It → Hp → Prop} (h : SqL K H a xs ∨ SqT K H a xs) (c : ∀ (J : It) (G : Hp → Prop), Walk J xs.length G (YEn 0 xs) → (∀ H', Same H H' → G H') → R J H) : EnS K a xs H R := by
  rcases h with h | h
  · refine .inl ⟨h, c _ _ ((walk_enum (K := K) (a := a) (xs := xs)).mono (fun _ g => g) fun i H x H' _ _ y => ?_) fun H' s => s.seq h⟩
    obtain ⟨T, x, y, rfl, nT, rfl, e1, e2⟩ := y
    cases e1
    exact ⟨T, y, rfl, nT, by rw [Int.zero_add], e2⟩
  · exact .inr ⟨h, c _ _ walk_T fun H' s => Bx.Same.tup s h⟩
def iEnS (K : PySem.W.Frag) (ta : TA) : TI := fun σ H R => ta σ H fun vs H1 => ∃ a xs, vs = [.ref a] ∧ EnS K a xs H1 R
theorem pi_enS {e : Expr} {ta : TA} {p pos tpos : Pos} {elts : List Expr} {kk : Nat} (hg : Gl X "enumerate") (hm : X.mg "enumerate" = none) (ha : PA X [e] ta) (hs : starEach [e] X.env = [(false, eval e X.env)] := by rfl) :
    PI X (.Tuple elts kk tpos) (.Call (.Name "enumerate" p) [e] [] pos) (iEnS X.K ta) := by
  refine ⟨fun pins s σ H R I h => ?_⟩
  refine Call_ (ld_blt I hg hm boot_enumerate (PyProof.Rows.callWith_type1 (thn (ha.run pos pins s σ H _ I h) fun us s1 ⟨vs, H1, I1, r1, q1⟩ => ?_) hs rfl))
  obtain ⟨a, xs, ex, q1⟩ := q1
  subst ex
  cases r1 with
  | cons r rr =>
    cases rr; cases r
    have two : ∀ b, b ∈ [s1.heap.objs.size + 1, s1.heap.objs.size] → FpOk X pins H1 b := fun b hb => by
      have le : s1.heap.objs.size ≤ b := by
        have : b = s1.heap.objs.size + 1 ∨ b = s1.heap.objs.size := by simpa using hb
        omega
      exact I1.fpOk le (I1.hok.fresh le)
    rcases q1 with ⟨hq, q⟩ | ⟨hq, q⟩
    · obtain ⟨its, rv, pl, hz⟩ := I1.list hq
      refine call_enumerate_list pl.isList fun g he hit hsz hk => wpAny_pyIter_enum he ?_
      exact ⟨_, _, _, _, H1, rfl, I1.kept (t' := s1.toks) hk, turn_enum a (s1.heap.objs.size + 1) s1.heap.objs.size, ⟨⟨.none, he⟩, hit, Nat.succ_ne_self _⟩, two, q⟩
    · obtain ⟨its, rv, pt, hz⟩ := I1.tuple hq
      have p2 : s1.heap.IsTuple a its.toArray := pt
      have hlt : a < s1.heap.objs.size := by
        obtain ⟨o, ho, _⟩ := p2
        exact Heap.lt_size ho
      refine begins_one (begins_tuple a its.toArray) p2 fun g hen hit hk => wpAny_pyIter_enum hen ?_
      exact ⟨_, _, _, _, H1, rfl, I1.kept (t' := s1.toks) hk, turn_T 0 a (s1.heap.objs.size + 1) s1.heap.objs.size (Nat.ne_of_lt hlt) (Nat.ne_of_gt (Nat.lt_succ_of_lt hlt)) (Nat.succ_ne_self _), ⟨⟨.none, by rw [show (0 : Int) + ((0 : Nat) : Int) = 0 by omega]; exact hen⟩, ⟨_, hit, rfl, rfl⟩⟩, two, q⟩
/-- {**d, **e}, e a dict of one pair -/
def tDD (te tf : TE) : TE := fun σ H Q => ∀ p, H p = none → te σ (upd H p (.dK [])) fun x H1 => ∃ a kvs, x = .ref a ∧ H1 a = some (.dK kvs) ∧ a ≠ p ∧ H1 p = some (.dK []) ∧ kvs.length + 1 ≤ sizeLine ∧
  tf σ (upd H1 p (.dK kvs)) fun y H2 => ∃ b k z, y = .ref b ∧ H2 b = some (.dK [(k, z)]) ∧ b ≠ p ∧ H2 p = some (.dK kvs) ∧ Q (.ref p) (upd H2 p (.dK (putK kvs k z)))
theorem pe_dd {e f : Expr} {te tf : TE} {pos : Pos} (he : PE X e te) (hf : PE X f tf) : PE X (.Dict [none, none] [e, f] pos) (tDD te tf) := by
  refine ⟨fun pins s σ H Q I q => ?_⟩
  rw [arm_eval_Dict]
  refine wpAny_bind (wpAny_standAt ?_)
  show wpAny _ _ (dictDisplay [(none, do let x ← eval e X.env; standAt pos; pure x), (none, do let x ← eval f X.env; standAt pos; pure x)]) _ _ _
  unfold dictDisplay
  simp only [List.forIn_cons, List.forIn_nil, List.isEmpty_nil, if_true, pure_bind, List.nil_append, List.length_cons, List.length_nil]
  have hp0 := I.hok.fresh (Nat.le_refl s.heap.objs.size)
  have I1 := I.laid (a := s.heap.objs.size) (o := .dK []) (h' := s.heap.push { cls := .type "dict", data := .dict #[] }) (t' := s.toks) (fun _ _ z => Heap.get?_push_of_some _ z) (Nat.le_refl _) (dk_empty s.heap I.big)
  refine wpAny_bind (wpAny_bind (wpAny_bind (wpAny_alloc (wpAny_bind (wpAny_holding (wpAny_bind (thn (he.run pins _ σ _ _ I1 (q _ hp0)) fun u s1 ⟨x, H1, I2, r1, a, kvs, ex, ea, nap, ep, hz, q1⟩ => ?_)))))))
  refine wpAny_bind (wpAny_standAt (wpAny_pure ?_))
  subst ex
  obtain rfl : u = Value.ref a := r1
  obtain ⟨z0, hd0, vs0, r0, dd0⟩ := dk_of I2.hok ep
  cases r0
  obtain ⟨za, hda, vsa, ra, dda⟩ := dk_of I2.hok ea
  have len : kvs.length = vsa.length := ra.length
  have nd : (vsa.map (·.1)).Nodup := by
    obtain ⟨_, _, _, _, _, _, _, _, hn⟩ := dda
    exact hn
  refine wpAny_bind (wpAny_onRaise (wpAny_tryCatch (wpAny_onRaise (wpAny_holding (Dd.merge_map (Ne.symm nap) hda dd0 dda (fun h1 m1 sb1 => ?_) (by rw [List.length_nil]; omega))))))
  rw [PySem.merged_nil_of_nodup _ nd] at m1
  have hp1 : ∃ z, h1.get? s.heap.objs.size = some z := let ⟨z, _, _, hq, _⟩ := m1; ⟨z, hq⟩
  have I3 : L2.Inv X pins σ (upd H1 s.heap.objs.size (.dK kvs)) { s1 with heap := h1 } := d_write (t' := s1.toks) I2 (by rw [ep]; exact True.intro) sb1 hp1 (dk_new (by omega) hd0 ra m1)
  refine wpAny_pure (wpAny_bind (wpAny_bind (wpAny_pure ?_)))
  dsimp only
  refine wpAny_bind (wpAny_holding (wpAny_bind (thn (hf.run pins _ σ _ _ I3 q1) fun u2 s2 ⟨y, H2, I4, r2, b, kk, z, ey, eb, nbp, ep2, q2⟩ => ?_)))
  refine wpAny_bind (wpAny_standAt (wpAny_pure ?_))
  subst ey
  obtain rfl : u2 = Value.ref b := r2
  obtain ⟨z3, hd3, vs3, r3, dd3⟩ := dk_of I4.hok ep2
  obtain ⟨zb, hdb, vsb, rb, ddb⟩ := dk_of I4.hok eb
  obtain ⟨rv, rs2⟩ : ∃ rv, vsb = [(kk, rv)] ∧ RelV z rv := by
    cases rb with
    | cons h t =>
      cases t
      obtain ⟨h1, h2⟩ := h
      exact ⟨_, congrArg (fun z => [z]) (Prod.ext h1.symm rfl), h2⟩
  obtain ⟨rfl, rzv⟩ := rs2
  refine wpAny_bind (wpAny_onRaise (wpAny_tryCatch (wpAny_onRaise (wpAny_holding (Dd.merge_map (Ne.symm nbp) hdb dd3 ddb (fun h3 m3 sb3 => ?_) ?_)))))
  · have hp4 : ∃ z, h3.get? s.heap.objs.size = some z := let ⟨z, _, _, hq, _⟩ := m3; ⟨z, hq⟩
    refine wpAny_pure (wpAny_pure ?_)
    refine wpAny_bind (wpAny_pure ?_)
    refine wpAny_pure ⟨.ref s.heap.objs.size, _, d_write (t' := s2.toks) I4 (by rw [ep2]; exact True.intro) sb3 hp4 (dk_new ?_ hd3 (r3.put kk rzv) m3), rfl, q2⟩
    have := length_putK kvs kk z
    omega
  · have l3 : kvs.length = vs3.length := r3.length
    show vs3.length + 1 ≤ sizeLine
    omega
end
end Ds
/-! C() of an own class that has no `__init__`. -/
namespace Mk0
open PySem PySem.Spec PyProof.Rows L2 Ow
structure Bare (K : PySem.W.Frag) (mg : Str → Option Value) (x : Str) (C : Addr) : Prop where
  make : PySem.W.makesIn K C = true
  ini : PySem.W.findIn K (.ref C) "__init__" = some (some (.builtin "object.__init__"))
  kp : PySem.W.keepIn K (.ref C) = true
  g : mg x = some (.ref C)
section
variable {X : Cx} {pins : List (Addr × Obj)} {σ : L2.St} {H : Hp} {s : Shared} {C : Addr} {Q : VK} {x : Str} {p pos : Pos}
def tBare (C : Addr) : TE := fun _ H Q => ∀ y dy, H y = none → H dy = none → dy ≠ y → Q (.ref y) (upd (upd H dy (.own y)) y (.ins C dy []))
theorem run_bare (B : Bare X.K X.mg x C) (I : Inv X pins σ H s) (h : tBare C σ H Q) : wpAny (model X.prog X.w) X.A (call (.ref C) []) (EP X pins σ Q) X.xe s := by
  have hq := h (s.heap.objs.size + 1) s.heap.objs.size (I.hok.fresh (Nat.le_succ _)) (I.hok.fresh (Nat.le_refl _)) (Nat.ne_of_lt (Nat.lt_succ_self _))
  have I2 := Inv.made (C := C) I
  have XK := I.kIn
  obtain ⟨hh, g, d, t, os⟩ := s
  have Y := PySem.W.makes_of (M := model X.prog X.w) XK B.make
  refine wpAny_call (PySem.W.make_core Y (PySem.W.looks_findIn XK B.ini) (fun self => PySem.W.Looks.of_pure (PySem.W.oi_bind self)) (.inr ⟨rfl, rfl⟩) ?_)
  have hx : ((hh.push PySem.W.emptyDict).push (PySem.W.instObj C hh.objs.size)).get? (hh.objs.size + 1) = some (PySem.W.instObj C hh.objs.size) := by
    have := Heap.get?_push_size (hh.push PySem.W.emptyDict) (o := PySem.W.instObj C hh.objs.size) rfl
    rwa [Heap.size_push] at this
  have t1 : PySem.W.Looks (model X.prog X.w) ((hh.push PySem.W.emptyDict).push (PySem.W.instObj C hh.objs.size)) (typeOf (.ref (hh.objs.size + 1))) (.ref C) := (PySem.W.Looks.ld hx).andThen .now
  have t2 : PySem.W.Looks (model X.prog X.w) ((hh.push PySem.W.emptyDict).push (PySem.W.instObj C hh.objs.size)) (isInstance (.ref (hh.objs.size + 1)) (.type "object")) true := t1.andThen (Y.top.keeps fun b o e => Heap.get?_push_of_some _ (Heap.get?_push_of_some _ e))
  refine PySem.codeAny_call_builtin PySem.W.oi_plain PySem.W.entry_oi (@PySem.W.check_slot (model X.prog X.w) _ _ _ "object.__init__" "object" "__init__" (.ref (hh.objs.size + 1)) [] [] _ PySem.W.oi_kind PySem.W.oi_split t2 (PySem.W.oi_args (.ref (hh.objs.size + 1))) ?_)
  rw [PySem.W.oi_run]
  exact wpAny_pure (And.intro rfl ⟨V.ref (hh.objs.size + 1), _, I2, rfl, hq⟩)
theorem pe_bare (B : Bare X.K X.mg x C) (hg : Gl X x := by rfl) (hdb : (x == ("__debug__" : Str)) = false := by decide) : PE X (.Call (.Name x p) [] [] pos) (tBare C) := by
  refine ⟨fun pins s σ H Q I h => ?_⟩
  refine wpAny_Call_Name_kw (ld_glob I hg B.g ?_ hdb)
  exact PySem.W.callWith_K0 I.kIn B.kp (run_bare B I h)
end
end Mk0
/-! t[::-1] of a tuple. -/
namespace Rt
open PySem PySem.Spec PyProof.Rows L2 HT
section
variable {prog : Program} {w : World} {A : Around} {E : Value → Shared → Prop} {s : Shared}
theorem sliceApplied_rev {sl : Addr} {vs : Value} {n : Nat} {Q : Int × Int × Nat → Shared → Prop} (hs : s.heap.IsSliceOf sl .none .none vs) (ps : IsPart vs (some (-1))) (h : Q ((n : Int) - 1, -1, n) s) :
    wpAny (model prog w) A (Builtin.Slice.sliceApplied (.ref sl) (pure (n : Int))) Q E s := by
  obtain ⟨os, hos, hcs, hds⟩ := id hs
  unfold Builtin.Slice.sliceApplied Builtin.Slice.sliceFields
  refine wpAny_bind (wpAny_bind (wpAny_field hos hds (x := .none) rfl (wpAny_bind (wpAny_field hos hds (x := .none) rfl (wpAny_bind (wpAny_field hos hds (x := vs) rfl (wpAny_pure ?_)))))))
  refine wpAny_bind (slicePart_ ps ?_)
  show wpAny _ _ (if ((-1 : Int) == 0) = true then _ else _) _ _ s
  rw [if_neg (by decide)]
  refine wpAny_bind (slicePart_none (wpAny_bind (slicePart_none (wpAny_bind (wpAny_pure ?_)))))
  show wpAny _ _ (pure ((n : Int) - 1, (-1 : Int), Builtin.Slice.slicePlaces ((n : Int) - 1) (-1) (-1))) _ _ s
  have e : Builtin.Slice.slicePlaces ((n : Int) - 1) (-1) (-1) = n := by
    unfold Builtin.Slice.slicePlaces
    rw [if_neg (by decide)]
    split
    · have e2 : ((n : Int) - 1 - -1 - 1) / (- -1) = (n : Int) - 1 := by
        rw [show (- -1 : Int) = 1 by decide, Int.ediv_one]
        omega
      rw [e2]
      omega
    · show (0 : Int).toNat = n
      omega
  rw [e]
  exact wpAny_pure h
theorem pick_rev (xs : Array Value) : ((List.range xs.size).filterMap fun (k : Nat) => xs[(((xs.size : Int) - 1) + (k : Int) * -1).toNat]?).toArray = xs.toList.reverse.toArray := by
  have e : (fun (k : Nat) => xs[(((xs.size : Int) - 1) + (k : Int) * -1).toNat]?) = (xs[·]?) ∘ fun k => xs.size - 1 - k := by
    funext k
    have : (((xs.size : Int) - 1) + (k : Int) * -1).toNat = xs.size - 1 - k := by omega
    show xs[(((xs.size : Int) - 1) + (k : Int) * -1).toNat]? = xs[xs.size - 1 - k]?
    rw [this]
  rw [e, ← List.filterMap_map, PySem.W.krv_range, List.filterMap_reverse, PySem.W.krv_all]
theorem getItem_tuple_rev {t sl : Addr} {items : Array Value} {vs : Value} {Q : Value → Shared → Prop} (ht : IsTup s.heap t items) (hs : s.heap.IsSliceOf sl .none .none vs) (ps : IsPart vs (some (-1)))
    (h : Q (.ref s.heap.objs.size) { s with heap := s.heap.push { cls := .type "tuple", data := .seq items.toList.reverse.toArray } })
    (hsz : items.size ≤ sizeLine) : wpAny (model prog w) A (getItem (.ref t) (.ref sl)) Q E s := by
  have htake : sizeOk (.seq items.toList.reverse.toArray) := by
    show items.toList.reverse.toArray.size ≤ sizeLine
    rw [List.size_toArray, List.length_reverse, Array.length_toList]
    exact hsz
  obtain ⟨os, hos, hcs, hds⟩ := id hs
  have hTs : s.TypeIs (.ref sl) "slice" := ⟨os, hos, hcs⟩
  unfold getItem
  try with_reducible refine wpAny_holding ?_
  first | refine wpAny_bind (wpAny_pure ?_) | skip
  refine wpAny_bind (wpAny_sequenceKey ht.typeIs (by decide) ?_)
  refine wpAny_bind (wpAny_callSpecial?_slot (name := Str.ofString "__getitem__") ht.typeIs PyProof.Rows.slot_tuple_getitem
    (wpAny_call_entry PyProof.Rows.slot_tuple_getitem ht.typeIs entry_tuple_getitem ?_ (args_tuple_getitem _ _)))
  show wpAny _ _ (Builtin.Tuple.tupleItemsOf (.ref t) >>= _) _ _ s
  refine wpAny_bind (tupleItemsOf_ ht ?_)
  refine wpAny_bind (wpAny_typeOf hTs ?_)
  rw [if_pos (by decide)]
  refine wpAny_bind (sliceApplied_rev hs ps ?_)
  have hno : ¬ (((((items.size : Int) - 1) == 0 && (-1 : Int) == 1) && items.size == items.size) = true) := by
    rw [show ((-1 : Int) == 1) = false by decide, Bool.and_false, Bool.false_and]
    exact Bool.false_ne_true
  show wpAny _ _ (if ((((items.size : Int) - 1) == 0 && (-1 : Int) == 1) && items.size == items.size) = true then _ else _) _ _ s
  rw [if_neg hno, pick_rev]
  first
    | exact wpAny_bind (m := Builtin.Tuple.tupleExact _) (wpAny_newObj_type (wpAny_pure ⟨_, rfl, wpAny_pure h⟩) htake)
    | exact wpAny_bind (m := Builtin.Tuple.tupleExact _) (wpAny_newObj_type (wpAny_bind (wpAny_pure (wpAny_pure ⟨_, rfl, wpAny_pure h⟩))) htake)
    | exact wpAny_bind (wpAny_bind (m := Builtin.Tuple.tupleExact _) (wpAny_newObj_type (wpAny_pure (wpAny_pure ⟨_, rfl, wpAny_pure h⟩)) htake))
    | exact wpAny_bind (wpAny_bind (m := Builtin.Tuple.tupleExact _) (wpAny_newObj_type (wpAny_pure ⟨_, rfl, wpAny_pure h⟩) htake))
end
section
variable {X : Cx}
def tRevT (K : PySem.W.Frag) (te : TE) : TE := fun σ H Q => te σ H fun x H1 => ∃ a xs, x = .ref a ∧ SqT K H1 a xs ∧ ∀ p, H1 p = none → Q (.ref p) (upd H1 p (.tup xs.reverse))
theorem pe_revT {e : Expr} {te : TE} {k : Nat} {p1 p2 p3 pos : Pos} (he : PE X e te) : PE X (.Subscript e (.Slice none none (some (.UnaryOp .USub (.Constant (.int 1) k p1) p2)) p3) pos) (tRevT X.K te) := by
  refine ⟨fun pins s σ H Q I h => ?_⟩
  refine Subscript_ (thn (he.run pins s σ H _ I h) fun v s1 ⟨x, H1, I1, r1, q1⟩ => ?_)
  obtain ⟨a, xs, ex, hx, q⟩ := q1
  subst ex
  cases r1
  have hst : PO X (some (.UnaryOp .USub (.Constant (.int 1) k p1) p2)) (tPart (tUn (rU fun i => .int (-i)) (tC (.int 1)))) := po_some (pe_un un_neg pe_int)
  refine wpAny_Slice (thn (po_none.run pins s1 σ H1 (fun o H2 => o = none ∧ H2 = H1) I1 ⟨rfl, rfl⟩) fun vl s2 ⟨l, H2, I2, pl, el, e2⟩ => ?_)
  subst el e2
  refine thn (po_none.run pins s2 σ H2 (fun o H3 => o = none ∧ H3 = H2) I2 ⟨rfl, rfl⟩) fun vu s3 ⟨u, H3, I3, pu, eu, e3⟩ => ?_
  subst eu e3
  refine thn (hst.run pins s3 σ H3 (fun o H4 => o = some (-1) ∧ H4 = H3) I3 ⟨1, rfl, -1, rfl, rfl, rfl⟩) fun vs s4 ⟨o, H4, I4, ps, eo, e4⟩ => ?_
  subst eo e4
  cases pl
  cases pu
  have I5 : Inv X pins σ H4 { s4 with heap := s4.heap.push { cls := .type "slice", data := .fields #[.none, .none, vs] } } := I4.kept (t' := s4.toks) fun b ob q => Heap.get?_push_of_some _ q
  obtain ⟨its, r, ht, hz⟩ := I5.tuple hx
  have hlen := r.length
  show wpAny (model X.prog X.w) X.A (subscriptTail e (.Slice none none (some (.UnaryOp .USub (.Constant (.int 1) k p1) p2)) p3) (.ref a) (.ref s4.heap.objs.size)) (EP X pins σ Q) X.xe { s4 with heap := s4.heap.push { cls := .type "slice", data := .fields #[.none, .none, vs] } }
  refine tail_any (ops := [.ref a, .ref s4.heap.objs.size]) ht.typeIs (PyProof.Rows.slot_tuple_getitem.lookup) ?_ (by with_unfolding_all rfl)
  refine getItem_tuple_rev ht (Heap.IsSliceOf.new _ .none .none vs) ps ?_ (by rw [List.size_toArray]; omega)
  refine ⟨.ref _, _, I5.laid (t' := s4.toks) (o := .tup xs.reverse) (fun b ob q => Heap.get?_push_of_some _ q) (Nat.le_refl _) ?_, rfl, q _ (I5.hok.fresh (Nat.le_refl _))⟩
  exact ⟨by rw [List.length_reverse]; exact hz, _, r.reverse, IsTup.new _ _⟩
end
end Rt
namespace K21
local macro_rules | `(tactic| walk_at "rd") => `(tactic| repeat (first | refine ⟨rfl, ?_⟩ | refine ⟨_, rfl, ?_⟩ | refine ⟨_, _, rfl, rfl, ?_⟩ | refine ⟨⟨_, rfl⟩, ?_⟩))
local macro_rules
  | `(tactic| tm_at $s:str) => do
    let id (x : String) := Lean.mkIdent (Lean.Name.mkSimple x)
    match s.getString.splitOn " " with
    | ["rd"] => `(tactic| walk_at "rd")
    | ["sz"] => `(tactic| first | exact sz (by decide) | exact szl (by decide) | exact sz (by show _ ≤ 100000; decide) | ((first | refine sz ?_ | refine szl ?_); (try simp only [List.length_map, List.length_append, List.length_cons, List.length_nil, List.length_take, List.length_drop]); omega) | fail "sz: no bound")
    | ["gn", p, h] => `(tactic| (generalize hu : upd _ $(id p) _ = $(id ("H" ++ p)); obtain ⟨$(id ("s" ++ p)), $(id h)⟩ := Go.al $(id ("n" ++ p)) hu; clear hu))
    | ["al", p] => `(tactic| (refine ⟨by tm_at "sz", fun $(id p) $(id ("n" ++ p)) => ?_⟩; generalize hu : upd _ $(id p) _ = $(id ("H" ++ p)); obtain ⟨$(id ("s" ++ p)), $(id ("h" ++ p))⟩ := Go.al $(id ("n" ++ p)) hu; clear hu; tm_at "rd"))
    | ["al0", p] => `(tactic| (refine ⟨by tm_at "sz", fun $(id p) $(id ("n" ++ p)) => ?_⟩; generalize hu : upd _ $(id p) _ = $(id ("H" ++ p)); obtain ⟨$(id ("s" ++ p)), $(id ("h" ++ p))⟩ := Go.al $(id ("n" ++ p)) hu; clear hu; tm_at "rd"))
    | ["new", p] => `(tactic| (refine fun $(id p) $(id ("n" ++ p)) => ?_; generalize hu : upd _ $(id p) _ = $(id ("H" ++ p)); obtain ⟨$(id ("s" ++ p)), $(id ("h" ++ p))⟩ := Go.al $(id ("n" ++ p)) hu; clear hu; tm_at "rd"))
    | ["new0", p] => `(tactic| (refine fun $(id p) $(id ("n" ++ p)) => ?_; generalize hu : upd _ $(id p) _ = $(id ("H" ++ p)); obtain ⟨$(id ("s" ++ p)), $(id ("h" ++ p))⟩ := Go.al $(id ("n" ++ p)) hu; clear hu; tm_at "rd"))
    | ["up"] => `(tactic| first
        | assumption | exact sq (by assumption) | exact sqt (by assumption) | exact PlT.sq (by assumption)
        | (refine' Bx.Same.tup (by assumption) ?hh; (case hh => tm_at "up")) | (refine' Same.seq (by assumption) ?hh; (case hh => tm_at "up")) | (refine' Go.get (by assumption) ?hh; (case hh => tm_at "up")) | (refine' dpAll_same (by assumption) ?hh; (case hh => tm_at "up")) | (refine' dp_same (by assumption) ?hh; (case hh => tm_at "up")) | (refine' PlT.same (by assumption) ?hh; (case hh => tm_at "up")) | (refine' Go.srcS (by assumption) ?hh; (case hh => tm_at "up"))
        | (refine' Go.tupB (s := _) (by assumption) (by assumption) ?hh; (case hh => tm_at "up")) | (refine' Go.dkB (s := _) (by assumption) (by assumption) ?hh; (case hh => tm_at "up")) | (refine' Go.insB (s := _) (by assumption) (by assumption) ?hh; (case hh => tm_at "up")) | (refine' Go.pltB (s := _) (by assumption) (by assumption) ?hh; (case hh => tm_at "up"))
        | (refine' Go.getB (by assumption) (by first | assumption | exact Ne.symm (by assumption)) ?hh; (case hh => tm_at "up"))
        | (refine' sq ?hh; (case hh => tm_at "raw")) | (refine' sqt ?hh; (case hh => tm_at "raw")) | (refine' PlT.sq ?hh; (case hh => tm_at "raw")) | fail "up: no fact")
    | ["raw"] => `(tactic| first
        | assumption | (refine' Go.get (by assumption) ?hh; (case hh => tm_at "raw")) | (refine' PlT.same (by assumption) ?hh; (case hh => tm_at "raw")) | (refine' Go.pltB (s := _) (by assumption) (by assumption) ?hh; (case hh => tm_at "raw")) | (refine' Go.getB (by assumption) (by first | assumption | exact Ne.symm (by assumption)) ?hh; (case hh => tm_at "raw")) | fail "raw: no fact")
    | ["sq"] => `(tactic| first | exact .inl (by tm_at "up") | exact .inr (by tm_at "up") | fail "sq: no fact")
    | ["ix", j] => `(tactic| (refine ⟨_, _, _, _, rfl, rfl, by tm_at "up", by exact atI_nat (j := $(Lean.Syntax.mkNumLit j)) rfl, ?_⟩; tm_at "rd"))
    | ["ixh", h] => `(tactic| (refine ⟨_, _, _, _, rfl, rfl, by tm_at "up", by first | exact Go.at_mapV $(id h) | exact Go.at_mapZ $(id h) | exact atI_nat $(id h) | exact Go.at_nat0 $(id h), ?_⟩; tm_at "rd"))
    | ["len"] => `(tactic| (refine ⟨_, _, rfl, by tm_at "sq", ?_⟩; (try rw [List.length_map]); tm_at "rd"))
    | ["tp", p] => `(tactic| (refine ⟨_, _, rfl, .inl ⟨by tm_at "up", fun $(id p) $(id ("n" ++ p)) => ?_⟩⟩; generalize hu : upd _ $(id p) _ = $(id ("H" ++ p)); obtain ⟨$(id ("s" ++ p)), $(id ("h" ++ p))⟩ := Go.al $(id ("n" ++ p)) hu; clear hu; tm_at "rd"))
    | ["tp0", p] => `(tactic| (refine ⟨_, _, rfl, .inl ⟨by tm_at "up", fun $(id p) $(id ("n" ++ p)) => ?_⟩⟩; generalize hu : upd _ $(id p) _ = $(id ("H" ++ p)); obtain ⟨$(id ("s" ++ p)), $(id ("h" ++ p))⟩ := Go.al $(id ("n" ++ p)) hu; clear hu; tm_at "rd"))
    | ["ls", p] => `(tactic| (refine ⟨_, _, rfl, by tm_at "sq", fun $(id p) $(id ("n" ++ p)) => ?_⟩; generalize hu : upd _ $(id p) _ = $(id ("H" ++ p)); obtain ⟨$(id ("s" ++ p)), $(id ("h" ++ p))⟩ := Go.al $(id ("n" ++ p)) hu; clear hu; tm_at "rd"))
    | ["ls0", p] => `(tactic| (refine ⟨_, _, rfl, by tm_at "sq", fun $(id p) $(id ("n" ++ p)) => ?_⟩; generalize hu : upd _ $(id p) _ = $(id ("H" ++ p)); obtain ⟨$(id ("s" ++ p)), $(id ("h" ++ p))⟩ := Go.al $(id ("n" ++ p)) hu; clear hu; tm_at "rd"))
    | ["tf", p] => `(tactic| (refine ⟨_, _, rfl, by tm_at "up", fun $(id p) $(id ("o" ++ p)) $(id ("n" ++ p)) $(id ("d" ++ p)) => ?_⟩; generalize hu : upd _ $(id p) _ = $(id ("H" ++ p)); obtain ⟨$(id ("s" ++ p)), $(id ("h" ++ p))⟩ := Go.alF $(id ("n" ++ p)) $(id ("d" ++ p)) hu; clear hu; tm_at "rd"))
    | ["alF", p] => `(tactic| (refine ⟨by tm_at "sz", fun $(id p) $(id ("o" ++ p)) $(id ("n" ++ p)) $(id ("d" ++ p)) => ?_⟩; generalize hu : upd _ $(id p) _ = $(id ("H" ++ p)); obtain ⟨$(id ("s" ++ p)), $(id ("h" ++ p))⟩ := Go.alF $(id ("n" ++ p)) $(id ("d" ++ p)) hu; clear hu; tm_at "rd"))
    | ["bare", k] => `(tactic| (refine fun $(id k) $(id ("d" ++ k)) $(id ("n" ++ k)) $(id ("nd" ++ k)) $(id ("ne" ++ k)) => ?_; generalize hu : upd (upd _ $(id ("d" ++ k)) _) $(id k) _ = $(id ("H" ++ k)); obtain ⟨$(id ("s" ++ k)), $(id ("h" ++ k))⟩ := Go.bare $(id ("n" ++ k)) $(id ("nd" ++ k)) $(id ("ne" ++ k)) hu; clear hu; walk_at "rd"))
    | ["me"] => `(tactic| (refine ⟨_, _, _, rfl, by tm_at "up", rfl, ?_⟩; walk_at "rd"))
    | ["star"] => `(tactic| ((first | refine ⟨_, _, rfl, .inl (by tm_at "up"), ?_⟩ | refine ⟨_, _, rfl, .inr (by tm_at "up"), ?_⟩ | fail "star"); walk_at "rd"))
    | ["ap0"] => `(tactic| (refine ⟨.inl ⟨rfl, _, by tm_at "up"⟩, ?_⟩; tm_at "rd"))
    | ["ap"] => `(tactic| refine ⟨_, _, _, rfl, rfl, by tm_at "up", by tm_at "sz", ?_⟩)
    | ["un", n] => match n with
      | "2" => `(tactic| (refine ⟨_, _, rfl, by tm_at "up", rfl, _, _, rfl, _, _, rfl, rfl, ?_⟩; tm_at "rd"))
      | _ => `(tactic| (refine ⟨_, _, rfl, by tm_at "up", rfl, _, _, rfl, _, _, rfl, _, _, rfl, rfl, ?_⟩; tm_at "rd"))
    | _ => Lean.Macro.throwUnsupported
open PySem PySem.Spec PyProof.Rows L2 Bx TL Dx Zx Ow Sup NdefX Px
def topS (i : Nat) : Stmt := PySem.Challenge.pw_shadowlinks_k21_trees_of_cases.main.body.getD i (.Pass ⟨0, 0, 0, 0⟩)
abbrev s_can_hold : Stmt := topS 4
abbrev n_can_hold : List Str := ["constraint", "decided"]
theorem sc_can_hold : FnScope n_can_hold ["constraint", "decided"] (defScope s_can_hold) := ⟨rfl, rfl, rfl, by decide +kernel, rfl, by decide +kernel, by decide +kernel⟩
abbrev s_agreeing : Stmt := topS 5
abbrev n_agreeing : List Str := ["constraint", "decided", "wanted", "names", "table", "name", "row", "at", "value"]
theorem sc_agreeing : FnScope n_agreeing ["constraint", "decided"] (defScope s_agreeing) := ⟨rfl, rfl, rfl, by decide +kernel, rfl, by decide +kernel, by decide +kernel⟩
abbrev s_Rows_certificate : Stmt := inClass (topS 8) 10
abbrev n_Rows_certificate : List Str := ["self", "theory", "constraint"]
theorem sc_Rows_certificate : FnScope n_Rows_certificate ["self", "theory", "constraint"] (defScope s_Rows_certificate) := ⟨rfl, rfl, rfl, by decide +kernel, rfl, by decide +kernel, by decide +kernel⟩
abbrev s_Rows_accepts : Stmt := inClass (topS 8) 11
abbrev n_Rows_accepts : List Str := ["self", "theory", "constraint", "certificate"]
theorem sc_Rows_accepts : FnScope n_Rows_accepts ["self", "theory", "constraint", "certificate"] (defScope s_Rows_accepts) := ⟨rfl, rfl, rfl, by decide +kernel, rfl, by decide +kernel, by decide +kernel⟩
abbrev s_Rows_counterexample : Stmt := inClass (topS 8) 12
abbrev n_Rows_counterexample : List Str := ["self", "theory", "constraint"]
theorem sc_Rows_counterexample : FnScope n_Rows_counterexample ["self", "theory", "constraint"] (defScope s_Rows_counterexample) := ⟨rfl, rfl, rfl, by decide +kernel, rfl, by decide +kernel, by decide +kernel⟩
abbrev s__explored : Stmt := topS 9
abbrev n__explored : List Str := ["theory", "constraint"]
theorem sc__explored : FnScope n__explored ["theory", "constraint"] (defScope s__explored) := ⟨rfl, rfl, rfl, by decide +kernel, rfl, by decide +kernel, by decide +kernel⟩
abbrev s__cases : Stmt := topS 10
abbrev n__cases : List Str := ["names", "tables", "constraint", "decided", "name", "others", "trees", "value", "index", "table", "one", "fewer", "tree", "found", "other"]
theorem sc__cases : FnScope n__cases ["names", "tables", "constraint", "decided"] (defScope s__cases) := ⟨rfl, rfl, rfl, by decide +kernel, rfl, by decide +kernel, by decide +kernel⟩
abbrev s__next_name : Stmt := topS 11
abbrev n__next_name : List Str := ["names", "tables", "constraint", "asked", "waiting", "sizes", "name", "own", "rows"]
theorem sc__next_name : FnScope n__next_name ["names", "tables", "constraint"] (defScope s__next_name) := ⟨rfl, rfl, rfl, by decide +kernel, rfl, by decide +kernel, by decide +kernel⟩
abbrev s__is_shown : Stmt := topS 12
abbrev n__is_shown : List Str := ["constraint", "decided", "names", "table", "name"]
theorem sc__is_shown : FnScope n__is_shown ["constraint", "decided"] (defScope s__is_shown) := ⟨rfl, rfl, rfl, by decide +kernel, rfl, by decide +kernel, by decide +kernel⟩
abbrev s__is_right : Stmt := topS 13
abbrev n__is_right : List Str := ["theory", "constraint", "tree", "decided", "name", "pairs", "names", "tables", "value", "branch"]
theorem sc__is_right : FnScope n__is_right ["theory", "constraint", "tree", "decided"] (defScope s__is_right) := ⟨rfl, rfl, rfl, by decide +kernel, rfl, by decide +kernel, by decide +kernel⟩
abbrev s__law_source : Stmt := topS 15
abbrev n__law_source : List Str := ["_law_script", "_law_k", "_law_number"]
theorem sc__law_source : FnScope n__law_source ["_law_script", "_law_k"] (defScope s__law_source) := ⟨rfl, rfl, rfl, by decide +kernel, rfl, by decide +kernel, by decide +kernel⟩
abbrev s__law_draw : Stmt := topS 16
abbrev n__law_draw : List Str := ["_law_source_here", "_law_limit", "_law_number", "_law_mixed"]
theorem sc__law_draw : FnScope n__law_draw ["_law_source_here", "_law_limit"] (defScope s__law_draw) := ⟨rfl, rfl, rfl, by decide +kernel, rfl, by decide +kernel, by decide +kernel⟩
abbrev s__law_some : Stmt := topS 17
abbrev n__law_some : List Str := ["_law_source_here", "_law_names", "_law_most", "_law_found", "_law_name"]
theorem sc__law_some : FnScope n__law_some ["_law_source_here", "_law_names", "_law_most"] (defScope s__law_some) := ⟨rfl, rfl, rfl, by decide +kernel, rfl, by decide +kernel, by decide +kernel⟩
abbrev s__law_is_int : Stmt := topS 18
abbrev n__law_is_int : List Str := ["_law_value"]
theorem sc__law_is_int : FnScope n__law_is_int ["_law_value"] (defScope s__law_is_int) := ⟨rfl, rfl, rfl, by decide +kernel, rfl, by decide +kernel, by decide +kernel⟩
abbrev s__law_can_hold : Stmt := topS 19
abbrev n__law_can_hold : List Str := ["_law_table_here", "_law_decided", "_law_row", "_law_k"]
theorem sc__law_can_hold : FnScope n__law_can_hold ["_law_table_here", "_law_decided"] (defScope s__law_can_hold) := ⟨rfl, rfl, rfl, by decide +kernel, rfl, by decide +kernel, by decide +kernel⟩
abbrev s__law_rows_show : Stmt := topS 20
abbrev n__law_rows_show : List Str := ["_law_theory", "_law_constraint", "_law_tree", "_law_decided", "_law_value", "_law_more", "_law_name", "_law_n"]
theorem sc__law_rows_show : FnScope n__law_rows_show ["_law_theory", "_law_constraint", "_law_tree", "_law_decided"] (defScope s__law_rows_show) := ⟨rfl, rfl, rfl, by decide +kernel, rfl, by decide +kernel, by decide +kernel⟩
abbrev s__law_all_rows : Stmt := topS 21
abbrev n__law_all_rows : List Str := ["_law_count", "_law_rows", "_law_k", "_law_longer", "_law_row", "_law_value"]
theorem sc__law_all_rows : FnScope n__law_all_rows ["_law_count"] (defScope s__law_all_rows) := ⟨rfl, rfl, rfl, by decide +kernel, rfl, by decide +kernel, by decide +kernel⟩
abbrev s__law_table : Stmt := topS 22
abbrev n__law_table : List Str := ["_law_source_here", "_law_names", "_law_wanted", "_law_share", "_law_row"]
theorem sc__law_table : FnScope n__law_table ["_law_source_here", "_law_names"] (defScope s__law_table) := ⟨rfl, rfl, rfl, by decide +kernel, rfl, by decide +kernel, by decide +kernel⟩
abbrev s__law_values : Stmt := topS 23
abbrev n__law_values : List Str := ["_law_names", "_law_row", "_law_values_here", "_law_k"]
theorem sc__law_values : FnScope n__law_values ["_law_names", "_law_row"] (defScope s__law_values) := ⟨rfl, rfl, rfl, by decide +kernel, rfl, by decide +kernel, by decide +kernel⟩
abbrev s__law_fits : Stmt := topS 24
abbrev n__law_fits : List Str := ["_law_table_here", "_law_values_here", "_law_name"]
theorem sc__law_fits : FnScope n__law_fits ["_law_table_here", "_law_values_here"] (defScope s__law_fits) := ⟨rfl, rfl, rfl, by decide +kernel, rfl, by decide +kernel, by decide +kernel⟩
abbrev s__law_solutions : Stmt := topS 25
abbrev n__law_solutions : List Str := ["_law_theory", "_law_found", "_law_row", "_law_values_here", "_law_table_here"]
theorem sc__law_solutions : FnScope n__law_solutions ["_law_theory"] (defScope s__law_solutions) := ⟨rfl, rfl, rfl, by decide +kernel, rfl, by decide +kernel, by decide +kernel⟩
abbrev s__law_question : Stmt := topS 26
abbrev n__law_question : List Str := ["_law_source_here", "_law_theory", "_law_solutions_here", "_law_names", "_law_way", "_law_taken", "_law_rows", "_law_values_here", "_law_row", "_law_name"]
theorem sc__law_question : FnScope n__law_question ["_law_source_here", "_law_theory", "_law_solutions_here"] (defScope s__law_question) := ⟨rfl, rfl, rfl, by decide +kernel, rfl, by decide +kernel, by decide +kernel⟩
abbrev s__law_made : Stmt := topS 27
abbrev n__law_made : List Str := ["_law_source_here", "_law_theory", "_law_order_here", "_law_decided", "_law_failing", "_law_branches", "_law_value", "_law_more", "_law_name", "_law_k"]
theorem sc__law_made : FnScope n__law_made ["_law_source_here", "_law_theory", "_law_order_here", "_law_decided"] (defScope s__law_made) := ⟨rfl, rfl, rfl, by decide +kernel, rfl, by decide +kernel, by decide +kernel⟩
abbrev s__law_leaf : Stmt := topS 28
abbrev n__law_leaf : List Str := ["_law_source_here", "_law_count"]
theorem sc__law_leaf : FnScope n__law_leaf ["_law_source_here", "_law_count"] (defScope s__law_leaf) := ⟨rfl, rfl, rfl, by decide +kernel, rfl, by decide +kernel, by decide +kernel⟩
abbrev s__law_spoilt : Stmt := topS 29
abbrev n__law_spoilt : List Str := ["_law_source_here", "_law_names", "_law_tree", "_law_count", "_law_marks", "_law_mark", "_law_way"]
theorem sc__law_spoilt : FnScope n__law_spoilt ["_law_source_here", "_law_names", "_law_tree", "_law_count"] (defScope s__law_spoilt) := ⟨rfl, rfl, rfl, by decide +kernel, rfl, by decide +kernel, by decide +kernel⟩
abbrev s__law_changed : Stmt := topS 30
abbrev n__law_changed : List Str := ["_law_source_here", "_law_names", "_law_tree", "_law_count", "_law_depth", "_law_at", "_law_parts"]
theorem sc__law_changed : FnScope n__law_changed ["_law_source_here", "_law_names", "_law_tree", "_law_count", "_law_depth"] (defScope s__law_changed) := ⟨rfl, rfl, rfl, by decide +kernel, rfl, by decide +kernel, by decide +kernel⟩
abbrev s__law_grown : Stmt := topS 31
abbrev n__law_grown : List Str := ["_law_source_here", "_law_names", "_law_count", "_law_depth", "_law_marks", "_law_mark", "_law_branches", "_law_k"]
theorem sc__law_grown : FnScope n__law_grown ["_law_source_here", "_law_names", "_law_count", "_law_depth"] (defScope s__law_grown) := ⟨rfl, rfl, rfl, by decide +kernel, rfl, by decide +kernel, by decide +kernel⟩
abbrev s__law_is_tree : Stmt := topS 32
abbrev n__law_is_tree : List Str := ["_law_tree", "_law_depth", "_law_k"]
theorem sc__law_is_tree : FnScope n__law_is_tree ["_law_tree", "_law_depth"] (defScope s__law_is_tree) := ⟨rfl, rfl, rfl, by decide +kernel, rfl, by decide +kernel, by decide +kernel⟩
abbrev s__law_breaks : Stmt := topS 33
abbrev n__law_breaks : List Str := ["_law_found", "_law_question_here", "_law_solutions_here", "_law_name"]
theorem sc__law_breaks : FnScope n__law_breaks ["_law_found", "_law_question_here", "_law_solutions_here"] (defScope s__law_breaks) := ⟨rfl, rfl, rfl, by decide +kernel, rfl, by decide +kernel, by decide +kernel⟩
abbrev s__law_order : Stmt := topS 34
abbrev n__law_order : List Str := ["_law_source_here", "_law_names", "_law_left", "_law_order_here", "_law_name"]
theorem sc__law_order : FnScope n__law_order ["_law_source_here", "_law_names"] (defScope s__law_order) := ⟨rfl, rfl, rfl, by decide +kernel, rfl, by decide +kernel, by decide +kernel⟩
abbrev s_law : Stmt := topS 35
abbrev n_law : List Str := ["_law_script", "_law_kind", "_law_source_here", "_law_names", "_law_theory", "_law_solutions_here", "_law_question_here", "_law_breaking", "_law_returned", "_law_found", "_law_made_here", "_law_trees", "_law_tree", "_law_answer", "_law_values_here", "_law_k"]
theorem sc_law : FnScope n_law ["_law_script"] (defScope s_law) := ⟨rfl, rfl, rfl, by decide +kernel, rfl, by decide +kernel, by decide +kernel⟩
theorem mt_indexK {X : Cx} {K : PySem.W.Frag} (h : X.K = K) : MtR X "list.index" (rIndex K) := h ▸ mt_index
theorem sl_tupAK {X : Cx} {K : PySem.W.Frag} (h : X.K = K) : SlR X (rSlA K) := h ▸ sl_tupA
theorem pa_starK {X : Cx} {K0 : PySem.W.Frag} {e : Expr} {es : List Expr} {p : Pos} {te : TE} {t : TA} (hk : X.K = K0) (he : PE X e te) (hr : PA X es t) (hs : starEach (.Starred e p :: es) X.env = (true, eval e X.env) :: starEach es X.env := by rfl) : PA X (.Starred e p :: es) (StX.tStar K0 te t) := by
  subst hk
  exact StX.pa_star he hr hs
section
variable {X : Cx} {K0 : PySem.W.Frag} {r : V → List V → Hp → VK → Prop} {T id : String} {name : Str} {o e : Expr} {es : List Expr} {apos cpos : Pos} {to : TE} {t : TA}
theorem pe_bmK (hk : X.K = K0) (pa : PlainAttrs T) (slot : Slot T name id) (hty : typeOf (.builtin id) = pure (.type "method_descriptor")) (hm : MtR X id r) (ho : PE X o to) (ha : PA X (e :: es) t)
    (hb : attributeBase o name X.env (eval o X.env) = eval o X.env := by rfl)
    (hf : ((backTo cpos (starEach (e :: es) X.env)).all (fun x => !x.1) && (backToKw cpos (keywordEach [] X.env)).all (fun x => x.1.isSome) && decide ((e :: es).length + ([] : List Keyword).length + (if ([] : List Keyword).isEmpty then 0 else 1) < 30)) = true := by rfl)
    (hl : (apos.endLine == cpos.line) = true := by rfl) (hs : starEach (e :: es) X.env = (false, eval e X.env) :: starEach es X.env := by rfl) (hp : (backTo cpos (starEach es X.env)).any (·.1) = false := by rfl) : PE X (.Call (.Attribute o name apos) (e :: es) [] cpos) (tBM K0 T r to t) := by
  subst hk
  exact pe_bm pa slot hty hm ho ha hb hf hl hs hp
theorem pi_listK {tg l : Expr} {tl : TE} (hk : X.K = K0) (hl : PE X l tl) : PI X tg l (iList K0 tl) := by
  subst hk
  exact pi_list hl
end
/-! ### tables -/
abbrev Row := List Int
abbrev Tab := List Str × List Row
def rowD (r : Row) : PyData := .tuple (r.map PyData.int)
def tabD (t : Tab) : PyData := .tuple [.tuple (t.1.map PyData.str), .tuple (t.2.map rowD)]
open Go (tupD tupAll Tk tk_same Tk.trans tk_lst dp_tk da_tk)
theorem tup_row : ∀ r : List Int, tupAll (r.map PyData.int) = true
  | [] => rfl
  | _ :: r => by
    show (true && tupAll (r.map PyData.int)) = true
    rw [tup_row r]
    rfl
theorem tup_strs : ∀ r : List Str, tupAll (r.map PyData.str) = true
  | [] => rfl
  | _ :: r => by
    show (true && tupAll (r.map PyData.str)) = true
    rw [tup_strs r]
    rfl
theorem da_atM {K : PySem.W.Frag} {H : Hp} {α : Type} {f : α → PyData} : ∀ {xs : List V} {ls : List α}, DpAll K H xs (ls.map f) → ∀ {i : Nat} {v : V}, xs[i]? = some v → ∃ l, ls[i]? = some l ∧ Dp K H v (f l)
  | _, [], h, i, v, e => by
    cases h
    cases e
  | _, c :: cs, h, i, v, e => by
    cases h with
    | cons h1 h2 =>
      cases i with
      | zero =>
        cases e
        exact ⟨c, rfl, h1⟩
      | succ i => exact da_atM h2 e
theorem cut_suf (xs : List V) (k : Nat) : cutV xs (some (k : Int)) none = xs.drop k := by
  unfold cutV
  rw [HT.sIx_nat, HT.sIx_none]
  by_cases h : k ≤ xs.length
  · rw [Nat.min_eq_left h]
    exact List.take_of_length_le (by rw [List.length_drop]; exact Nat.le_refl _)
  · rw [Nat.min_eq_right (by omega), List.drop_of_length_le (show xs.length ≤ k by omega), List.drop_length]
    exact List.take_nil

theorem row_dp {K : PySem.W.Frag} {H : Hp} {v : V} {r : Row} (h : Dp K H v (rowD r)) : ∃ q, v = .ref q ∧ SqT K H q (r.map V.int) := by
  obtain ⟨q, xs, rfl, hq, ha⟩ := dp_tup h
  rw [da_ints ha] at hq
  exact ⟨q, rfl, hq⟩
theorem dp_row {K : PySem.W.Frag} {H : Hp} {q : Addr} {r : Row} (h : SqT K H q (r.map V.int)) : Dp K H (.ref q) (rowD r) := .tup h (dp_ints r)
theorem tup_rows : ∀ L : List Row, tupAll (L.map rowD) = true
  | [] => rfl
  | r :: L => by
    show (tupAll (r.map PyData.int) && tupAll (L.map rowD)) = true
    rw [tup_row, tup_rows L]
    rfl
/-- the table t stands at p -/
def TabAt (K : PySem.W.Frag) (H : Hp) (p : Addr) (t : Tab) : Prop := ∃ a b us, SqT K H p [.ref a, .ref b] ∧ PlT H a (t.1.map V.str) ∧ SqT K H b us ∧ DpAll K H us (t.2.map rowD)
/-- tuples stay -/
def Kp (K : PySem.W.Frag) (H H' : Hp) : Prop := Tk K H H' ∧ ∀ a xs, PlT H a xs → PlT H' a xs
theorem kp_same {K : PySem.W.Frag} {H H' : Hp} (s : Same H H') : Kp K H H' := ⟨tk_same s, fun _ _ => PlT.same s⟩
theorem Kp.trans {K : PySem.W.Frag} {H H1 H2 : Hp} (x : Kp K H H1) (y : Kp K H1 H2) : Kp K H H2 := ⟨x.1.trans y.1, fun a xs h => y.2 a xs (x.2 a xs h)⟩
theorem kp_lst {K : PySem.W.Frag} {H : Hp} {p : Addr} {ys : List V} {o : HO} (hp : H p = some (.lst ys)) : Kp K H (upd H p o) := ⟨tk_lst hp, fun a xs ⟨ob, h, e⟩ => ⟨ob, by rw [upd_ne fun z => by rw [z, hp] at h; cases h]; exact h, e⟩⟩
theorem kp_but {K : PySem.W.Frag} {H H' : Hp} {s : Addr} {ys : List V} (hs : H s = some (.lst ys)) (b : SameBut s H H') : Kp K H H' := by
  refine ⟨fun a xs h => ?_, fun a xs ⟨ob, h, e⟩ => ⟨ob, b _ _ (fun z => by rw [z, hs] at h; cases h) h, e⟩⟩
  rcases h with (h | ⟨u, h⟩) | h
  · exact .inl (.inl (b _ _ (fun z => by rw [z, hs] at h; cases h) h))
  · exact .inl (.inr ⟨u, b _ _ (fun z => by rw [z, hs] at h; cases h) h⟩)
  · exact .inr h
theorem TabAt.kp {K : PySem.W.Frag} {H H' : Hp} {p : Addr} {t : Tab} (k : Kp K H H') (h : TabAt K H p t) : TabAt K H' p t := by
  obtain ⟨a, b, us, h1, h2, h3, h4⟩ := h
  exact ⟨a, b, us, k.1 _ _ h1, k.2 _ _ h2, k.1 _ _ h3, da_tk k.1 _ _ (tup_rows _) h4⟩
theorem TabAt.dp {K : PySem.W.Frag} {H : Hp} {p : Addr} {t : Tab} (h : TabAt K H p t) : Dp K H (.ref p) (tabD t) := by
  obtain ⟨a, b, us, h1, h2, h3, h4⟩ := h
  exact .tup h1 (.cons (names_dp h2.sq) (.cons (.tup h3 h4) .nil))
/-! ### values by names -/
def val (ns : List Str) (r : Row) (z : Str) : Int := r.getD (ns.idxOf z) 0
def pk (ns : List Str) (r : Row) (ws : List Str) : Row := ws.map (val ns r)
theorem idx_at {ns : List Str} {z : Str} (h : z ∈ ns) : ns[ns.idxOf z]? = some z ∧ ∀ m, m < ns.idxOf z → ns[m]? ≠ some z := by
  have lt := List.idxOf_lt_length_of_mem h
  refine ⟨by rw [List.getElem?_eq_getElem lt, List.getElem_idxOf lt], fun m hm e => ?_⟩
  obtain ⟨lm, em⟩ := List.getElem?_eq_some_iff.mp e
  have := List.not_of_lt_findIdx (xs := ns) (p := (· == z)) (i := m) hm
  simp [em] at this
theorem val_at {ns : List Str} {r : Row} {z : Str} (h : z ∈ ns) (hl : r.length = ns.length) : atI (r.map V.int) ((ns.idxOf z : Nat) : Int) = some (.int (val ns r z)) := by
  have lt : ns.idxOf z < r.length := by
    rw [hl]
    exact List.idxOf_lt_length_of_mem h
  exact atI_nat (by rw [List.getElem?_map, List.getElem?_eq_getElem lt]; unfold val; rw [List.getD_eq_getElem?_getD, List.getElem?_eq_getElem lt]; rfl)
section
variable {P : Program} {w : World} {K : PySem.W.Frag} {mg : Str → Option Value} {base : Heap}
theorem slice_any {H : Hp} {a : Addr} {xs : List V} {lo hi : Option Int} (ha : SqT K H a xs) {Z : VK} (q : ∀ c' H', Same H H' → SqT K H' c' (cutV xs lo hi) → Z (.ref c') H') : rSlA K (.ref a) lo hi H Z := by
  refine ⟨a, xs, rfl, ha, fun h => ?_, fun _ p np => q p _ (same_new np) (sqt upd_same)⟩
  have e : cutV xs lo hi = xs := by
    unfold cutV
    rw [h.1, h.2, List.drop_zero, Nat.sub_zero, List.take_length]
  exact q a H (Same.refl H) (e.symm ▸ ha)
end
end K21
namespace K21
open Go (tupD tupAll Tk tk_same Tk.trans tk_lst dp_tk da_tk)
open PySem PySem.Spec PyProof.Rows L2 PySem.W
/-! ### rows in order -/
def rle (a b : Row) : Bool := decide (a ≤ b)
theorem dle_rows : dataLe false rowD = rle := by
  funext p q
  show (!dataLt (.tuple (q.map .int)) (.tuple (p.map .int))) = _
  rw [dataLt_tuple]
  show (!rowLt (q.map .int) (p.map .int)) = _
  rw [dataLt_ints]
  unfold rle
  by_cases h : q < p
  · have h' : ¬ p ≤ q := fun r => List.not_lt.mpr r h
    simp [h, h']
  · have h' : p ≤ q := List.not_lt.mp h
    simp [h, h']
theorem rle_total : TotalLe rle := by
  rw [← dle_rows]
  unfold dataLe
  exact sortLe_total _ _ _
theorem rle_anti {a b : Row} (h1 : rle a b = true) (h2 : rle b a = true) : a = b := List.le_antisymm (of_decide_eq_true h1) (of_decide_eq_true h2)
theorem rows_sort (L : List Row) : (L.map rowD).mergeSort So.dle = (L.mergeSort rle).map rowD := (sort_maps (r := rle) (s := So.dle) rowD fun a _ b _ => (congrFun (congrFun dle_rows a) b).symm).symm
theorem perm_sorted {l m : List Row} (h : l.Perm m) (hm : m.Pairwise fun a b => rle a b = true) : l.mergeSort rle = m :=
  List.Perm.eq_of_pairwise (fun _ _ _ _ x y => rle_anti x y) (sort_pairwise rle_total l) hm ((List.mergeSort_perm l rle).trans h)
theorem same_sorted {l m : List Row} (nl : l.Nodup) (nm : m.Nodup) (h : ∀ x, x ∈ l ↔ x ∈ m) (hm : m.Pairwise fun a b => rle a b = true) : l.mergeSort rle = m := perm_sorted ((List.perm_ext_iff_of_nodup nl nm).mpr h) hm
theorem same_sorts {l m : List Row} (nl : l.Nodup) (nm : m.Nodup) (h : ∀ x, x ∈ l ↔ x ∈ m) : l.mergeSort rle = m.mergeSort rle := perm_sorted (((List.perm_ext_iff_of_nodup nl nm).mpr h).trans (List.mergeSort_perm m rle).symm) (sort_pairwise rle_total m)
/-! ### all rows -/
def rowsN : Nat → List Row
  | 0 => [[]]
  | n + 1 => (rowsN n).flatMap fun r => [r ++ [0], r ++ [1], r ++ [2]]
theorem lt_app : ∀ {a b : Row} (x y : Row), a.length = b.length → a < b → a ++ x < b ++ y
  | [], [], _, _, _, h => absurd h (List.lt_irrefl _)
  | [], _ :: _, _, _, h, _ => by cases h
  | _ :: _, [], _, _, h, _ => by cases h
  | a :: as, b :: bs, x, y, hl, h => by
    rw [List.cons_append, List.cons_append, List.cons_lt_cons_iff]
    rcases List.cons_lt_cons_iff.mp h with z | ⟨z1, z2⟩
    · exact .inl z
    · exact .inr ⟨z1, lt_app x y (Nat.succ.inj hl) z2⟩
theorem lt_tail : ∀ (a : Row) {i j : Int}, i < j → a ++ [i] < a ++ [j]
  | [], i, j, h => List.cons_lt_cons_iff.mpr (.inl h)
  | a :: as, i, j, h => List.cons_lt_cons_iff.mpr (.inr ⟨rfl, lt_tail as h⟩)
theorem rowsN_len : ∀ (n : Nat) (r : Row), r ∈ rowsN n → r.length = n
  | 0, r, h => by
    rw [List.mem_singleton.mp h]
    rfl
  | n + 1, r, h => by
    obtain ⟨q, hq, hr⟩ := List.mem_flatMap.mp h
    have := rowsN_len n q hq
    simp only [List.mem_cons, List.not_mem_nil, or_false] at hr
    rcases hr with rfl | rfl | rfl <;> simp [this]
theorem rowsN_asc : ∀ n : Nat, (rowsN n).Pairwise fun a b => a < b
  | 0 => List.pairwise_singleton _ _
  | n + 1 => by
    refine List.pairwise_flatMap.mpr ⟨fun r _ => ?_, ?_⟩
    · have h01 := lt_tail r (show (0 : Int) < 1 by decide)
      have h02 := lt_tail r (show (0 : Int) < 2 by decide)
      have h12 := lt_tail r (show (1 : Int) < 2 by decide)
      refine .cons (fun b hb => ?_) (.cons (fun b hb => ?_) (List.pairwise_singleton _ _))
      · simp only [List.mem_cons, List.not_mem_nil, or_false] at hb
        rcases hb with rfl | rfl
        · exact h01
        · exact h02
      · rw [List.mem_singleton.mp hb]
        exact h12
    · refine List.Pairwise.imp_of_mem (fun {a b} ha hb h x hx y hy => ?_) (rowsN_asc n)
      have e : a.length = b.length := (rowsN_len n a ha).trans (rowsN_len n b hb).symm
      simp only [List.mem_cons, List.not_mem_nil, or_false] at hx hy
      rcases hx with rfl | rfl | rfl <;> rcases hy with rfl | rfl | rfl <;> exact lt_app _ _ e h
theorem rowsN_mem : ∀ (n : Nat) (r : Row), r ∈ rowsN n ↔ r.length = n ∧ ∀ x ∈ r, x = 0 ∨ x = 1 ∨ x = 2
  | 0, r => by
    refine ⟨fun h => ?_, fun h => ?_⟩
    · rw [List.mem_singleton.mp h]
      exact ⟨rfl, fun x hx => nomatch hx⟩
    · rw [List.length_eq_zero_iff.mp h.1]
      exact List.mem_singleton.mpr rfl
  | n + 1, r => by
    refine ⟨fun h => ⟨rowsN_len _ r h, ?_⟩, fun h => ?_⟩
    · obtain ⟨q, hq, hr⟩ := List.mem_flatMap.mp h
      have ih := ((rowsN_mem n q).mp hq).2
      simp only [List.mem_cons, List.not_mem_nil, or_false] at hr
      intro x hx
      rcases hr with rfl | rfl | rfl <;> rcases List.mem_append.mp hx with z | z <;> first | exact ih x z | (rw [List.mem_singleton.mp z]; simp)
    · have ne : r ≠ [] := fun e => by
        rw [e] at h
        simp at h
      have e := List.dropLast_concat_getLast ne
      have hl := h.2 _ (List.getLast_mem ne)
      generalize r.getLast ne = y at e hl
      rw [← e]
      refine List.mem_flatMap.mpr ⟨r.dropLast, (rowsN_mem n _).mpr ⟨by rw [List.length_dropLast, h.1]; rfl, fun x hx => h.2 x (List.dropLast_subset r hx)⟩, ?_⟩
      rcases hl with rfl | rfl | rfl <;> simp
theorem rowsN_num : ∀ n : Nat, (rowsN n).length = 3 ^ n
  | 0 => rfl
  | n + 1 => by
    have key : ∀ l : List Row, (l.flatMap fun r => [r ++ [0], r ++ [1], r ++ [2]]).length = 3 * l.length := by
      intro l
      induction l with
      | nil => rfl
      | cons a l ih =>
        rw [List.flatMap_cons, List.length_append, ih, List.length_cons (as := l)]
        show 3 + 3 * l.length = 3 * (l.length + 1)
        omega
    show ((rowsN n).flatMap _).length = _
    rw [key, rowsN_num n, Nat.pow_succ, Nat.mul_comm]
theorem asc_nd {L : List Row} (h : L.Pairwise fun a b => a < b) : L.Nodup := List.Pairwise.imp (fun {a b} (z : a < b) (e : a = b) => List.lt_irrefl b (by rw [e] at z; exact z)) h
theorem asc_le {L : List Row} (h : L.Pairwise fun a b => a < b) : L.Pairwise fun a b => rle a b = true := List.Pairwise.imp (fun z => decide_eq_true (List.le_of_lt z)) h
/-! ### values by names -/
theorem val_map {ws : List Str} {f : Str → Int} {z : Str} (h : z ∈ ws) : val ws (ws.map f) z = f z := by
  unfold val
  rw [List.getD_eq_getElem?_getD, List.getElem?_map, (idx_at h).1]
  rfl
theorem val_pk {ns ws : List Str} {r : Row} {z : Str} (h : z ∈ ws) : val ws (pk ns r ws) z = val ns r z := val_map h
theorem val_app {ns ms : List Str} {r o : Row} {z : Str} (hl : r.length = ns.length) : val (ns ++ ms) (r ++ o) z = if z ∈ ns then val ns r z else val ms o z := by
  unfold val
  rw [List.idxOf_append]
  by_cases h : z ∈ ns
  · rw [if_pos h, if_pos h, List.getD_eq_getElem?_getD, List.getD_eq_getElem?_getD, List.getElem?_append_left (by rw [hl]; exact List.idxOf_lt_length_of_mem h)]
  · rw [if_neg h, if_neg h, List.getD_eq_getElem?_getD, List.getD_eq_getElem?_getD, List.getElem?_append_right (by omega)]
    congr 2
    omega
theorem pk_self {ns : List Str} {r : Row} (nd : ns.Nodup) (hl : r.length = ns.length) : pk ns r ns = r := by
  show ns.map (val ns r) = r
  refine List.ext_getElem (by rw [List.length_map, hl]) fun i h1 h2 => ?_
  rw [List.getElem_map]
  unfold val
  rw [nd.idxOf_getElem i (by omega), List.getD_eq_getElem?_getD, List.getElem?_eq_getElem h2]
  rfl
theorem pk_pk {ns ws xs : List Str} {r : Row} (h : ∀ z ∈ xs, z ∈ ws) : pk ws (pk ns r ws) xs = pk ns r xs := List.map_congr_left fun z hz => val_pk (h z hz)
theorem pk_len {ns ws : List Str} {r : Row} : (pk ns r ws).length = ws.length := List.length_map _
theorem val_dig {ns : List Str} {n : Nat} {r : Row} (h : r ∈ rowsN n) (z : Str) : val ns r z = 0 ∨ val ns r z = 1 ∨ val ns r z = 2 := by
  unfold val
  rw [List.getD_eq_getElem?_getD]
  cases e : r[ns.idxOf z]? with
  | none => exact .inl rfl
  | some x => exact ((rowsN_mem n r).mp h).2 x (List.mem_of_getElem? e)
theorem pk_rows {ns ws : List Str} {n : Nat} {r : Row} (h : r ∈ rowsN n) : pk ns r ws ∈ rowsN ws.length := (rowsN_mem _ _).mpr ⟨pk_len, fun x hx => by
  obtain ⟨z, _, rfl⟩ := List.mem_map.mp hx
  exact val_dig h z⟩
/-! ### joining -/
structure TOk (t : Tab) : Prop where
  nd : t.1.Nodup
  rows : t.2.Sublist (rowsN t.1.length)
theorem TOk.mem {t : Tab} (h : TOk t) {r : Row} (hr : r ∈ t.2) : r ∈ rowsN t.1.length := h.rows.subset hr
theorem TOk.len {t : Tab} (h : TOk t) {r : Row} (hr : r ∈ t.2) : r.length = t.1.length := rowsN_len _ r (h.mem hr)
theorem TOk.rnd {t : Tab} (h : TOk t) : t.2.Nodup := h.rows.nodup (asc_nd (rowsN_asc _))
def shr (t u : Tab) : List Str := t.1.filter fun z => decide (z ∈ u.1)
def grp (t u : Tab) (r : Row) : List Row := u.2.filter fun o => decide (pk u.1 o (shr t u) = pk t.1 r (shr t u))
def joinL (t u : Tab) (ys : List Str) : List Row := t.2.flatMap fun r => (grp t u r).map fun o => pk (t.1 ++ u.1) (r ++ o) ys
def fitB (t u : Tab) (ys : List Str) (x : Row) : Bool := decide (pk ys x t.1 ∈ t.2) && decide (pk ys x u.1 ∈ u.2)
def expT (t u : Tab) (ys : List Str) : Tab := (ys, (rowsN ys.length).filter (fitB t u ys))
theorem mix_left {t u : Tab} {ys : List Str} {r o : Row} (ht : TOk t) (hy : ∀ z, z ∈ ys ↔ z ∈ t.1 ∨ z ∈ u.1) (hr : r ∈ t.2) : pk ys (pk (t.1 ++ u.1) (r ++ o) ys) t.1 = r := by
  rw [pk_pk fun z hz => (hy z).mpr (.inl hz)]
  refine Eq.trans (List.map_congr_left fun z hz => ?_) (pk_self ht.nd (ht.len hr))
  rw [val_app (ht.len hr), if_pos hz]
theorem mix_right {t u : Tab} {ys : List Str} {r o : Row} (ht : TOk t) (hu : TOk u) (hy : ∀ z, z ∈ ys ↔ z ∈ t.1 ∨ z ∈ u.1) (hr : r ∈ t.2) (ho : o ∈ u.2) (ag : pk u.1 o (shr t u) = pk t.1 r (shr t u)) : pk ys (pk (t.1 ++ u.1) (r ++ o) ys) u.1 = o := by
  rw [pk_pk fun z hz => (hy z).mpr (.inr hz)]
  refine Eq.trans (List.map_congr_left fun z hz => ?_) (pk_self hu.nd (hu.len ho))
  rw [val_app (ht.len hr)]
  by_cases h : z ∈ t.1
  · rw [if_pos h]
    have zs : z ∈ shr t u := List.mem_filter.mpr ⟨h, decide_eq_true hz⟩
    rw [← val_pk (ns := t.1) (r := r) zs, ← ag, val_pk zs]
  · rw [if_neg h]
theorem join_eq {t u : Tab} {ys : List Str} (ht : TOk t) (hu : TOk u) (hy : ∀ z, z ∈ ys ↔ z ∈ t.1 ∨ z ∈ u.1) (yn : ys.Nodup) : (ys, (joinL t u ys).mergeSort rle) = expT t u ys := by
  have grpm : ∀ {r o}, o ∈ grp t u r ↔ o ∈ u.2 ∧ pk u.1 o (shr t u) = pk t.1 r (shr t u) := fun {r o} => by
    unfold grp
    rw [List.mem_filter, decide_eq_true_iff]
  refine congrArg (Prod.mk ys) (same_sorted ?_ ((asc_nd (rowsN_asc _)).sublist List.filter_sublist) (fun x => ?_) ((asc_le (rowsN_asc _)).sublist List.filter_sublist))
  · refine List.pairwise_flatMap.mpr ⟨fun r hr => ?_, List.Pairwise.imp_of_mem (fun {r r'} hr hr' ne x hx y hy' e => ?_) ht.rnd⟩
    · refine List.pairwise_map.mpr (List.Pairwise.imp_of_mem (fun {o o'} ho ho' ne e => ne ?_) (hu.rnd.sublist List.filter_sublist))
      obtain ⟨h1, h2⟩ := grpm.mp ho
      obtain ⟨h3, h4⟩ := grpm.mp ho'
      rw [← mix_right ht hu hy hr h1 h2, e, mix_right ht hu hy hr h3 h4]
    · obtain ⟨o, _, rfl⟩ := List.mem_map.mp hx
      obtain ⟨o', _, rfl⟩ := List.mem_map.mp hy'
      exact ne (by rw [← mix_left ht hy hr (o := o), e, mix_left ht hy hr'])
  · rw [List.mem_filter]
    unfold fitB
    rw [Bool.and_eq_true, decide_eq_true_iff, decide_eq_true_iff]
    refine ⟨fun h => ?_, fun ⟨h1, h2, h3⟩ => ?_⟩
    · obtain ⟨r, hr, hx⟩ := List.mem_flatMap.mp h
      obtain ⟨o, ho, rfl⟩ := List.mem_map.mp hx
      obtain ⟨ho1, ho2⟩ := grpm.mp ho
      refine ⟨(rowsN_mem _ _).mpr ⟨pk_len, fun v hv => ?_⟩, by rw [mix_left ht hy hr]; exact hr, by rw [mix_right ht hu hy hr ho1 ho2]; exact ho1⟩
      obtain ⟨z, _, rfl⟩ := List.mem_map.mp hv
      rw [val_app (ht.len hr)]
      split
      · exact val_dig (ht.mem hr) z
      · exact val_dig (hu.mem ho1) z
    · refine List.mem_flatMap.mpr ⟨_, h2, List.mem_map.mpr ⟨_, grpm.mpr ⟨h3, ?_⟩, ?_⟩⟩
      · have q1 : ∀ z ∈ shr t u, z ∈ u.1 := fun z hz => of_decide_eq_true (List.mem_filter.mp hz).2
        have q2 : ∀ z ∈ shr t u, z ∈ t.1 := fun z hz => (List.mem_filter.mp hz).1
        rw [pk_pk q1, pk_pk q2]
      · refine Eq.trans (List.map_congr_left fun z hz => ?_) (pk_self yn (rowsN_len _ x h1))
        rw [val_app pk_len]
        by_cases h : z ∈ t.1
        · rw [if_pos h, val_pk h]
        · rw [if_neg h, val_pk (((hy z).mp hz).resolve_left h)]
theorem exp_ok {t u : Tab} {ys : List Str} (yn : ys.Nodup) : TOk (expT t u ys) := ⟨yn, List.filter_sublist⟩
/-! ### dropping -/
theorem cut_names {ns : List Str} {z : Str} (nd : ns.Nodup) : ns.take (ns.idxOf z) ++ ns.drop (ns.idxOf z + 1) = ns.filter fun y => decide (y ≠ z) := by
  rw [← List.eraseIdx_eq_take_drop_succ, ← List.erase_eq_eraseIdx_of_idxOf rfl, nd.erase_eq_filter]
  refine List.filter_congr fun y _ => ?_
  by_cases e : y = z <;> simp [e]
theorem cut_row {ns : List Str} {r : Row} {z : Str} (nd : ns.Nodup) (hl : r.length = ns.length) : r.take (ns.idxOf z) ++ r.drop (ns.idxOf z + 1) = pk ns r (ns.filter fun y => decide (y ≠ z)) := by
  have e := pk_self nd hl
  have e2 : r.take (ns.idxOf z) ++ r.drop (ns.idxOf z + 1) = (pk ns r ns).take (ns.idxOf z) ++ (pk ns r ns).drop (ns.idxOf z + 1) := by rw [e]
  rw [e2]
  unfold pk
  rw [← List.map_take, ← List.map_drop, ← List.map_append, cut_names nd]
def dropR (t : Tab) (z : Str) : List Row := t.2.map fun r => pk t.1 r (t.1.filter fun y => decide (y ≠ z))
/-- each once, in its order -/
def once : List Row → List Row → List Row
  | acc, [] => acc
  | acc, r :: l => once (if r ∈ acc then acc else acc ++ [r]) l
theorem once_snoc : ∀ (l acc : List Row) (r : Row), once acc (l ++ [r]) = if r ∈ once acc l then once acc l else once acc l ++ [r]
  | [], acc, r => rfl
  | x :: l, acc, r => once_snoc l _ r
theorem once_nd : ∀ (l acc : List Row), acc.Nodup → (once acc l).Nodup
  | [], _, h => h
  | r :: l, acc, h => by
    refine once_nd l _ ?_
    by_cases c : r ∈ acc
    · rw [if_pos c]
      exact h
    · rw [if_neg c]
      refine List.nodup_append.mpr ⟨h, by simp, fun a ha b hb e => ?_⟩
      rw [List.mem_singleton.mp hb] at e
      exact c (e ▸ ha)
theorem once_mem : ∀ (l acc : List Row) (x : Row), x ∈ once acc l ↔ x ∈ acc ∨ x ∈ l
  | [], acc, x => by simp [once]
  | r :: l, acc, x => by
    show x ∈ once _ l ↔ _
    rw [once_mem l, List.mem_cons]
    by_cases c : r ∈ acc
    · rw [if_pos c]
      refine ⟨fun h => h.imp id .inr, fun h => ?_⟩
      rcases h with h | rfl | h
      · exact .inl h
      · exact .inl c
      · exact .inr h
    · rw [if_neg c, List.mem_append, List.mem_singleton, or_assoc]
theorem once_le : ∀ (l acc : List Row), (once acc l).length ≤ acc.length + l.length
  | [], acc => Nat.le_add_right _ _
  | r :: l, acc => by
    have z := once_le l (if r ∈ acc then acc else acc ++ [r])
    have y : (if r ∈ acc then acc else acc ++ [r]).length ≤ acc.length + 1 := by
      by_cases c : r ∈ acc
      · rw [if_pos c]
        exact Nat.le_succ _
      · rw [if_neg c, List.length_append]
        exact Nat.le_refl _
    show (once (if r ∈ acc then acc else acc ++ [r]) l).length ≤ acc.length + (l.length + 1)
    omega
end K21
namespace K21
open Go (tupD tupAll Tk tk_same Tk.trans tk_lst dp_tk da_tk All2)
open PySem PySem.Spec PyProof.Rows L2 Bx TL Dx Zx Ow Sup NdefX Px
local macro_rules | `(tactic| walk_at "rd") => `(tactic| repeat (first | refine ⟨rfl, ?_⟩ | refine ⟨_, rfl, ?_⟩ | refine ⟨_, _, rfl, rfl, ?_⟩ | refine ⟨⟨_, rfl⟩, ?_⟩))
local macro_rules
  | `(tactic| tm_at $s:str) => do
    let id (x : String) := Lean.mkIdent (Lean.Name.mkSimple x)
    match s.getString.splitOn " " with
    | ["rd"] => `(tactic| walk_at "rd")
    | ["sz"] => `(tactic| first | exact sz (by decide) | exact szl (by decide) | exact sz (by show _ ≤ 100000; decide) | ((first | refine sz ?_ | refine szl ?_); (try simp only [List.length_map, List.length_append, List.length_cons, List.length_nil, List.length_take, List.length_drop]); omega) | fail "sz: no bound")
    | ["gn", p, h] => `(tactic| (generalize hu : upd _ $(id p) _ = $(id ("H" ++ p)); obtain ⟨$(id ("s" ++ p)), $(id h)⟩ := Go.al $(id ("n" ++ p)) hu; clear hu))
    | ["al", p] => `(tactic| (refine ⟨by tm_at "sz", fun $(id p) $(id ("n" ++ p)) => ?_⟩; generalize hu : upd _ $(id p) _ = $(id ("H" ++ p)); obtain ⟨$(id ("s" ++ p)), $(id ("h" ++ p))⟩ := Go.al $(id ("n" ++ p)) hu; clear hu; tm_at "rd"))
    | ["al0", p] => `(tactic| (refine ⟨by tm_at "sz", fun $(id p) $(id ("n" ++ p)) => ?_⟩; generalize hu : upd _ $(id p) _ = $(id ("H" ++ p)); obtain ⟨$(id ("s" ++ p)), $(id ("h" ++ p))⟩ := Go.al $(id ("n" ++ p)) hu; clear hu; tm_at "rd"))
    | ["new", p] => `(tactic| (refine fun $(id p) $(id ("n" ++ p)) => ?_; generalize hu : upd _ $(id p) _ = $(id ("H" ++ p)); obtain ⟨$(id ("s" ++ p)), $(id ("h" ++ p))⟩ := Go.al $(id ("n" ++ p)) hu; clear hu; tm_at "rd"))
    | ["new0", p] => `(tactic| (refine fun $(id p) $(id ("n" ++ p)) => ?_; generalize hu : upd _ $(id p) _ = $(id ("H" ++ p)); obtain ⟨$(id ("s" ++ p)), $(id ("h" ++ p))⟩ := Go.al $(id ("n" ++ p)) hu; clear hu; tm_at "rd"))
    | ["up"] => `(tactic| first
        | assumption | exact sq (by assumption) | exact sqt (by assumption) | exact PlT.sq (by assumption)
        | (refine' Bx.Same.tup (by assumption) ?hh; (case hh => tm_at "up")) | (refine' Same.seq (by assumption) ?hh; (case hh => tm_at "up")) | (refine' Go.get (by assumption) ?hh; (case hh => tm_at "up")) | (refine' dpAll_same (by assumption) ?hh; (case hh => tm_at "up")) | (refine' dp_same (by assumption) ?hh; (case hh => tm_at "up")) | (refine' PlT.same (by assumption) ?hh; (case hh => tm_at "up")) | (refine' Go.srcS (by assumption) ?hh; (case hh => tm_at "up"))
        | (refine' Go.tupB (s := _) (by assumption) (by assumption) ?hh; (case hh => tm_at "up")) | (refine' Go.dkB (s := _) (by assumption) (by assumption) ?hh; (case hh => tm_at "up")) | (refine' Go.insB (s := _) (by assumption) (by assumption) ?hh; (case hh => tm_at "up")) | (refine' Go.pltB (s := _) (by assumption) (by assumption) ?hh; (case hh => tm_at "up"))
        | (refine' Go.getB (by assumption) (by first | assumption | exact Ne.symm (by assumption)) ?hh; (case hh => tm_at "up"))
        | (refine' sq ?hh; (case hh => tm_at "raw")) | (refine' sqt ?hh; (case hh => tm_at "raw")) | (refine' PlT.sq ?hh; (case hh => tm_at "raw")) | fail "up: no fact")
    | ["raw"] => `(tactic| first
        | assumption | (refine' Go.get (by assumption) ?hh; (case hh => tm_at "raw")) | (refine' PlT.same (by assumption) ?hh; (case hh => tm_at "raw")) | (refine' Go.pltB (s := _) (by assumption) (by assumption) ?hh; (case hh => tm_at "raw")) | (refine' Go.getB (by assumption) (by first | assumption | exact Ne.symm (by assumption)) ?hh; (case hh => tm_at "raw")) | fail "raw: no fact")
    | ["sq"] => `(tactic| first | exact .inl (by tm_at "up") | exact .inr (by tm_at "up") | fail "sq: no fact")
    | ["ix", j] => `(tactic| (refine ⟨_, _, _, _, rfl, rfl, by tm_at "up", by exact atI_nat (j := $(Lean.Syntax.mkNumLit j)) rfl, ?_⟩; tm_at "rd"))
    | ["ixh", h] => `(tactic| (refine ⟨_, _, _, _, rfl, rfl, by tm_at "up", by first | exact Go.at_mapV $(id h) | exact Go.at_mapZ $(id h) | exact atI_nat $(id h) | exact Go.at_nat0 $(id h), ?_⟩; tm_at "rd"))
    | ["len"] => `(tactic| (refine ⟨_, _, rfl, by tm_at "sq", ?_⟩; (try rw [List.length_map]); tm_at "rd"))
    | ["tp", p] => `(tactic| (refine ⟨_, _, rfl, .inl ⟨by tm_at "up", fun $(id p) $(id ("n" ++ p)) => ?_⟩⟩; generalize hu : upd _ $(id p) _ = $(id ("H" ++ p)); obtain ⟨$(id ("s" ++ p)), $(id ("h" ++ p))⟩ := Go.al $(id ("n" ++ p)) hu; clear hu; tm_at "rd"))
    | ["tp0", p] => `(tactic| (refine ⟨_, _, rfl, .inl ⟨by tm_at "up", fun $(id p) $(id ("n" ++ p)) => ?_⟩⟩; generalize hu : upd _ $(id p) _ = $(id ("H" ++ p)); obtain ⟨$(id ("s" ++ p)), $(id ("h" ++ p))⟩ := Go.al $(id ("n" ++ p)) hu; clear hu; tm_at "rd"))
    | ["ls", p] => `(tactic| (refine ⟨_, _, rfl, by tm_at "sq", fun $(id p) $(id ("n" ++ p)) => ?_⟩; generalize hu : upd _ $(id p) _ = $(id ("H" ++ p)); obtain ⟨$(id ("s" ++ p)), $(id ("h" ++ p))⟩ := Go.al $(id ("n" ++ p)) hu; clear hu; tm_at "rd"))
    | ["ls0", p] => `(tactic| (refine ⟨_, _, rfl, by tm_at "sq", fun $(id p) $(id ("n" ++ p)) => ?_⟩; generalize hu : upd _ $(id p) _ = $(id ("H" ++ p)); obtain ⟨$(id ("s" ++ p)), $(id ("h" ++ p))⟩ := Go.al $(id ("n" ++ p)) hu; clear hu; tm_at "rd"))
    | ["tf", p] => `(tactic| (refine ⟨_, _, rfl, by tm_at "up", fun $(id p) $(id ("o" ++ p)) $(id ("n" ++ p)) $(id ("d" ++ p)) => ?_⟩; generalize hu : upd _ $(id p) _ = $(id ("H" ++ p)); obtain ⟨$(id ("s" ++ p)), $(id ("h" ++ p))⟩ := Go.alF $(id ("n" ++ p)) $(id ("d" ++ p)) hu; clear hu; tm_at "rd"))
    | ["alF", p] => `(tactic| (refine ⟨by tm_at "sz", fun $(id p) $(id ("o" ++ p)) $(id ("n" ++ p)) $(id ("d" ++ p)) => ?_⟩; generalize hu : upd _ $(id p) _ = $(id ("H" ++ p)); obtain ⟨$(id ("s" ++ p)), $(id ("h" ++ p))⟩ := Go.alF $(id ("n" ++ p)) $(id ("d" ++ p)) hu; clear hu; tm_at "rd"))
    | ["bare", k] => `(tactic| (refine fun $(id k) $(id ("d" ++ k)) $(id ("n" ++ k)) $(id ("nd" ++ k)) $(id ("ne" ++ k)) => ?_; generalize hu : upd (upd _ $(id ("d" ++ k)) _) $(id k) _ = $(id ("H" ++ k)); obtain ⟨$(id ("s" ++ k)), $(id ("h" ++ k))⟩ := Go.bare $(id ("n" ++ k)) $(id ("nd" ++ k)) $(id ("ne" ++ k)) hu; clear hu; walk_at "rd"))
    | ["me"] => `(tactic| (refine ⟨_, _, _, rfl, by tm_at "up", rfl, ?_⟩; walk_at "rd"))
    | ["star"] => `(tactic| ((first | refine ⟨_, _, rfl, .inl (by tm_at "up"), ?_⟩ | refine ⟨_, _, rfl, .inr (by tm_at "up"), ?_⟩ | fail "star"); walk_at "rd"))
    | ["ap0"] => `(tactic| (refine ⟨.inl ⟨rfl, _, by tm_at "up"⟩, ?_⟩; tm_at "rd"))
    | ["ap"] => `(tactic| refine ⟨_, _, _, rfl, rfl, by tm_at "up", by tm_at "sz", ?_⟩)
    | ["un", n] => match n with
      | "2" => `(tactic| (refine ⟨_, _, rfl, by tm_at "up", rfl, _, _, rfl, _, _, rfl, rfl, ?_⟩; tm_at "rd"))
      | _ => `(tactic| (refine ⟨_, _, rfl, by tm_at "up", rfl, _, _, rfl, _, _, rfl, _, _, rfl, rfl, ?_⟩; tm_at "rd"))
    | _ => Lean.Macro.throwUnsupported
theorem sub_len : ∀ (l D : List Str), l.Nodup → (∀ x ∈ l, x ∈ D) → l.length ≤ D.length
  | [], _, _, _ => Nat.zero_le _
  | x :: l, D, hn, hs => by
    obtain ⟨h1, h2⟩ := List.nodup_cons.mp hn
    have hx := hs x List.mem_cons_self
    have ih := sub_len l (D.erase x) h2 fun y hy => (List.mem_erase_of_ne (fun e => h1 (by rw [← e]; exact hy))).2 (hs y (List.mem_cons_of_mem _ hy))
    rw [List.length_erase_of_mem hx] at ih
    have := List.length_pos_of_mem hx
    rw [List.length_cons]
    omega
theorem alike_rows (L : List Row) : PySem.W.AllAlike (L.map rowD) := fun d hd d' hd' => by
  obtain ⟨a, _, rfl⟩ := List.mem_map.mp hd
  obtain ⟨b, _, rfl⟩ := List.mem_map.mp hd'
  show PySem.W.alikeAll (a.map .int) (b.map .int) = true
  exact PySem.W.alike_ints a b
theorem row_depth (r : Row) : (rowD r).depth ≤ 60 := Nat.le_trans (lay_tuple (lays_ints (n := 1) (ns := r))).2 (by decide)
def lrowD (r : Row) : PyData := .list (r.map PyData.int)
theorem dp_lrow {K : PySem.W.Frag} {H : Hp} {q : Addr} {r : Row} (h : SqL K H q (r.map V.int)) : Dp K H (.ref q) (lrowD r) := .lst h (dp_ints r)
theorem lrow_dp {K : PySem.W.Frag} {H : Hp} {v : V} {r : Row} (h : Dp K H v (lrowD r)) : ∃ q, v = .ref q ∧ SqL K H q (r.map V.int) := by
  obtain ⟨q, xs, rfl, hq, ha⟩ := dp_lst h
  rw [da_ints ha] at hq
  exact ⟨q, rfl, hq⟩
theorem flat_len {α β : Type} {f : α → List β} {n : Nat} : ∀ l : List α, (∀ a ∈ l, (f a).length ≤ n) → (l.flatMap f).length ≤ l.length * n
  | [], _ => Nat.zero_le _
  | a :: l, h => by
    have z := flat_len l fun x hx => h x (List.mem_cons_of_mem _ hx)
    have y := h a List.mem_cons_self
    rw [List.flatMap_cons, List.length_append, List.length_cons, Nat.succ_mul]
    omega
theorem take_flat {α β : Type} {f : α → List β} {l : List α} {i : Nat} {a : α} (h : l[i]? = some a) : (l.take (i + 1)).flatMap f = (l.take i).flatMap f ++ f a := by
  rw [List.take_add_one, h, List.flatMap_append]
  simp
theorem cut_pre (xs : List V) (k : Nat) : cutV xs none (some (k : Int)) = xs.take k := by
  unfold cutV
  rw [HT.sIx_nat]
  show (xs.drop 0).take (min k xs.length - 0) = xs.take k
  rw [List.drop_zero, Nat.sub_zero, ← List.take_eq_take_min]
theorem plain_row : ∀ r : Row, Sd.plains (r.map PyData.int) = true
  | [] => rfl
  | x :: r => by
    show (Sd.plain (.int x) && Sd.plains (r.map PyData.int)) = true
    rw [plain_row r]
    rfl
theorem nk_row : ∀ r : Row, NestedKey.depthAll (Sd.nks (r.map PyData.int)) ≤ 0
  | [] => Nat.le_refl _
  | x :: r => by
    have ih := nk_row r
    show max (Sd.nk (.int x)).depth (NestedKey.depthAll (Sd.nks (r.map PyData.int))) ≤ 0
    have e : (Sd.nk (.int x)).depth = 0 := rfl
    omega
theorem k8_row (r : Row) : Sd.K8 (rowD r) := by
  have z := nk_row r
  refine ⟨⟨_, rfl⟩, plain_row r, ?_, row_depth r⟩
  show NestedKey.depthAll (Sd.nks (r.map PyData.int)) + 1 ≤ 8
  omega
theorem row_inj {r s : Row} (h : rowD r = rowD s) : r = s := by
  have e : r.map PyData.int = s.map PyData.int := PyData.tuple.inj h
  have e2 := congrArg (List.map fun d : PyData => match d with | .int i => i | _ => (0 : Int)) e
  rwa [List.map_map, List.map_map, show ((fun d : PyData => match d with | .int i => i | _ => (0 : Int)) ∘ PyData.int) = id from rfl, List.map_id, List.map_id] at e2
theorem unmap {α : Type} {f : α → PyData} : ∀ {l : List PyData}, (∀ d ∈ l, ∃ x, f x = d) → ∃ m : List α, l = m.map f
  | [], _ => ⟨[], rfl⟩
  | d :: l, h => by
    obtain ⟨x, rfl⟩ := h d (List.mem_cons_self ..)
    obtain ⟨m, rfl⟩ := unmap fun e he => h e (List.mem_cons_of_mem _ he)
    exact ⟨x :: m, rfl⟩
theorem perm_unmap {α : Type} {f : α → PyData} (inj : ∀ x y, f x = f y → x = y) {l m : List α} (h : (l.map f).Perm (m.map f)) : l.Perm m := by
  classical
  refine List.perm_iff_count.mpr fun x => ?_
  have cnt : ∀ k : List α, (k.map f).count (f x) = k.count x := fun k => by
    rw [List.count_eq_countP, List.countP_map, List.count_eq_countP]
    refine List.countP_congr fun y _ => ?_
    simp only [Function.comp, beq_iff_eq]
    exact ⟨fun e => inj _ _ e, fun e => by rw [e]⟩
  rw [← cnt l, ← cnt m]
  exact List.perm_iff_count.mp h (f x)
theorem lay_rows (L : List Row) : Lays 2 (L.map rowD) := lays_of fun d hd => by
  obtain ⟨r, _, rfl⟩ := List.mem_map.mp hd
  exact lay_tuple (lays_ints (n := 1))
theorem len_243 {t : Tab} (h : TOk t) (l : t.1.length ≤ 5) : t.2.length ≤ 243 := Nat.le_trans h.rows.length_le (by rw [rowsN_num]; exact Nat.pow_le_pow_right (by decide) l)
theorem filter_some (p : Row → Bool) : ∀ L : List Row, (!(L.filter p).isEmpty) = L.any p
  | [] => rfl
  | r :: L => by
    rw [List.any_cons, ← filter_some p L]
    by_cases c : p r = true
    · rw [List.filter_cons_of_pos c, c]
      rfl
    · rw [List.filter_cons_of_neg c, Bool.eq_false_iff.mpr c]
      rfl
/-! ### what is decided -/
abbrev As := List (Str × Int)
def asV (l : As) : List (Key × V) := l.map fun p => (.inr p.1, .int p.2)
def lk (l : As) (z : Str) : Option Int := (l.find? fun p => decide (p.1 = z)).map (·.2)
theorem val_as : ∀ (l : As) (z : Str), valV (asV l) (.inr z) = (lk l z).map V.int
  | [], _ => rfl
  | p :: r, z => by
    have ih := val_as r z
    unfold lk at ih ⊢
    by_cases e : p.1 = z
    · have e2 : ((.inr p.1 : Key), V.int p.2).1 = .inr z := congrArg Sum.inr e
      show valV (((.inr p.1 : Key), V.int p.2) :: asV r) (.inr z) = _
      rw [valV_pos e2, List.find?_cons, decide_eq_true e]
      rfl
    · have e2 : ¬ ((.inr p.1 : Key), V.int p.2).1 = .inr z := fun h => e (Sum.inr.inj h)
      show valV (((.inr p.1 : Key), V.int p.2) :: asV r) (.inr z) = _
      rw [valV_neg e2, List.find?_cons, decide_eq_false e]
      exact ih
/-- the places of decided names, with their values -/
def wants (ns : List Str) (l : As) (ws : List Str) : List (Nat × Int) := (ws.filter fun z => (lk l z).isSome).map fun z => (ns.idxOf z, (lk l z).getD 0)
def prD (x : Nat × Int) : PyData := .tuple [.int (x.1 : Nat), .int x.2]
def okR (ns : List Str) (l : As) (r : Row) : Bool := ((wants ns l ns).map fun x => decide (V.int (r.getD x.1 0) = V.int x.2)).all id
theorem wants_step {ns ws : List Str} {l : As} {i : Nat} {z : Str} (h : ws[i]? = some z) : wants ns l (ws.take (i + 1)) = wants ns l (ws.take i) ++ if (lk l z).isSome = true then [(ns.idxOf z, (lk l z).getD 0)] else [] := by
  unfold wants
  rw [List.take_add_one, h, List.filter_append, List.map_append]
  congr 1
  by_cases c : (lk l z).isSome = true
  · simp [c]
  · simp [c]
section
variable {P : Program} {w : World} {K : PySem.W.Frag} {mg : Str → Option Value} {base : Heap}
@[irreducible] def spAgree (K : PySem.W.Frag) : Sp := fun vs H Q _ => ∃ (p d : Addr) (t : Tab) (l : As), vs = [.ref p, .ref d] ∧ TabAt K H p t ∧ TOk t ∧ t.1.length ≤ 5 ∧ H d = some (.dK (asV l)) ∧
  ∀ r H', Same H H' → TabAt K H' r (t.1, t.2.filter (okR t.1 l)) → Q (.ref r) H'
set_option maxHeartbeats 2000000 in
theorem ok_agreeing {f : Addr} {fd : FuncData} (F : Fun K "agreeing" "agreeing" s_agreeing f fd) (m_all : mg "all" = none) (m_tuple : mg "tuple" = none) : FnOk P w K mg base CX0 1 f fd ["constraint", "decided"] (spAgree K) := by
  refine F.ok sc_agreeing (fun vs H Q E h => ?_) (fun cdv A outer s H vs Q E hr h => ?_)
  · unfold spAgree at h
    obtain ⟨p, d, t, l, rfl, _⟩ := h
    rfl
  · unfold spAgree at h
    obtain ⟨p, d, t, l, rfl, hp, ht, tl, hd, q0⟩ := h
    have tr := len_243 ht tl
    have hu := hu_of hr
    obtain ⟨a1, b1, us1, t1, t2, t3, t4⟩ := hp
    have l1 : us1.length = t.2.length := by rw [da_len t4, List.length_map]
    refine ⟨_, (pss_cons (ps_asg (pv 0) (pg_tup rfl (pgs_cons (pg_name (i := 3) sc_agreeing.nd rfl (Or.inr rfl)) (pgs_cons (pg_name (i := 4) sc_agreeing.nd rfl (Or.inl rfl)) pgs_nil))))
    (pss_cons (ps_set (i := 2) sc_agreeing.nd rfl (Or.inr rfl) (pe_lc (own := [("name", 5)]) rfl sc_agreeing.nd (pi_tup (pv 3)) (blkOk_by (N := n_agreeing) (sc := defScope s_agreeing) (by decide +kernel)) (fun _ _ _ _ _ => pg_name (i := 5) sc_agreeing.nd rfl (Or.inl rfl)) (fun _ _ _ _ _ => pts_one (pt_cmp (pc_din hu (pv 5) (pv 1)))) (fun _ _ _ _ _ => (pe_tup (pa_cons (TiX.pe_tix (pv 3) (pa_cons (pv 5) pa_nil)) (pa_cons (pe_dget hu (pv 1) (pv 5) (fun _ _ => rfl)) pa_nil))))))
    (pss_one (ps_ret (pe_tup (pa_cons (pv 3) (pa_cons (pe_callTy (T := "tuple") call_tuple_of (by rfl) m_tuple (by decide +kernel) (pa_cons (pe_lc (own := [("row", 6)]) rfl sc_agreeing.nd (pi_tup (pv 4)) (blkOk_by (N := n_agreeing) (sc := defScope s_agreeing) (by decide +kernel)) (fun _ _ _ _ _ => pg_name (i := 6) sc_agreeing.nd rfl (Or.inr rfl)) (fun _ _ _ _ _ => pts_one (pt_val (pe_callB (id := "all") (cr_allK (K := K) rfl rfl) (by rfl) m_all (by decide +kernel) (pa_cons (pe_lc (own := [("at", 7), ("value", 8)]) (wi := iList K (tVar 2)) (tt := tYes) rfl sc_agreeing.nd (pi_list (pv 2)) (Nx.blkOk_nest (N := n_agreeing) (sc := defScope s_agreeing) rfl (by decide +kernel)) (fun _ _ _ _ _ => pg_tupK (K := K) (n := 2) rfl rfl (pgs_cons (pg_name (i := 7) sc_agreeing.nd rfl (Or.inl rfl)) (pgs_cons (pg_name (i := 8) sc_agreeing.nd rfl (Or.inl rfl)) pgs_nil))) (fun _ _ _ _ _ => pts_nil) (fun _ _ _ _ _ => (pe_cmpR op_eq (pe_ix (ix_tupK (K := K) rfl) (pv 6) (pv 7) (fun _ _ => rfl)) (pv 8) (nomark _)))) pa_nil)))) (fun _ _ _ _ _ => (pv 6))) pa_nil)) pa_nil))))))), ?_⟩
    walk_at "rd"
    refine ⟨_, _, rfl, t1, rfl, _, _, rfl, _, _, rfl, rfl, ?_⟩
    walk_at "rd"
    refine ⟨⟨_, t2.sq⟩, fun D hD => ?_⟩
    refine lc_it walk_tup (fun i H' => Same H H' ∧ ∃ us, H' D = some (.lst us) ∧ DpAll K (mn H' [D]) us ((wants t.1 l (t.1.take i)).map prD) ∧ us.length ≤ i) ⟨same_new hD, [], upd_same, .nil, Nat.le_refl _⟩ (fun i H' _ h => (PlT.same h.1 t2).sq) ?_ ?_
    · rintro i v H2a H2 hi ⟨s2, us, hM, hda, ul⟩ ⟨rfl, hx⟩
      obtain ⟨z, hz, rfl⟩ := at_map hx
      rw [List.length_map] at hi
      refine ⟨rfl, ?_⟩
      walk_at "rd"
      refine ⟨_, _, rfl, DGet.k (k := .inr z) (s2 _ _ hd), ?_⟩
      rw [val_as, Option.isSome_map]
      refine ⟨_, rfl, ?_⟩
      rw [wants_step hz]
      refine ite2 (fun c => ?_) (fun c => ?_)
      · have c2 : (lk l z).isSome = true := c
        obtain ⟨y, ey⟩ := Option.isSome_iff_exists.mp c2
        walk_at "rd"
        obtain ⟨i1, i2⟩ := idx_at (List.mem_of_getElem? hz)
        refine ⟨_, t.1, rfl, PlT.same s2 t2, ?_⟩
        walk_at "rd"
        refine ⟨z, t.1.idxOf z, rfl, PlT.same s2 t2, i1, i2, ?_⟩
        walk_at "rd"
        have g := DGet.k (k := .inr z) (s2 _ _ hd)
        rw [val_as, ey] at g
        refine ⟨_, _, rfl, g, ?_⟩
        refine ⟨sz (by show 2 ≤ 100000; decide), fun N nN => ?_⟩
        have s3 := same_new nN (o := .tup [V.int ((t.1.idxOf z : Nat) : Int), V.int y])
        have hN := upd_same (H := H2) (a := N) (o := .tup [V.int ((t.1.idxOf z : Nat) : Int), V.int y])
        generalize upd H2 N (.tup [V.int ((t.1.idxOf z : Nat) : Int), V.int y]) = H3 at s3 hN ⊢
        have ND : N ≠ D := fun e => by
          rw [e, hM] at nN
          cases nN
        refine ⟨us, s3 _ _ hM, szl (by omega), same_at hD (s2.trans s3), us ++ [.ref N], upd_same, ?_, by rw [List.length_append]; show us.length + 1 ≤ _; omega⟩
        rw [mn_upd (by simp), if_pos c2, List.map_append, ey]
        refine da_app (dpAll_same (mn_all s3) hda) (da_one (.tup (sqt ?_) (.cons (.int _) (.cons (.int _) .nil))))
        rw [mn_out (by simp [ND])]
        exact hN
      · rw [if_neg (show ¬ (lk l z).isSome = true from c), List.append_nil]
        exact ⟨s2, us, hM, hda, by omega⟩
    rintro H2 ⟨s2, us, hM, hda, ul⟩
    rw [List.length_map, List.take_length] at hda
    have hda2 : DpAll K H2 us ((wants t.1 l t.1).map prD) := dpAll_same mn_same hda
    rw [List.length_map] at ul
    have wl : us.length = (wants t.1 l t.1).length := by rw [da_len hda2, List.length_map]
    clear hda
    have t32 := Bx.Same.tup s2 t3
    have t42 := dpAll_same s2 t4
    walk_at "rd"
    refine ⟨⟨_, t32⟩, fun D2 hD2 => ?_⟩
    refine lc_it walk_tup (fun i H' => Same H2 H' ∧ ∃ vs, H' D2 = some (.lst vs) ∧ DpAll K H2 vs (((t.2.take i).filter (okR t.1 l)).map rowD)) ⟨same_new hD2, [], upd_same, .nil⟩ (fun i H' _ h => Bx.Same.tup h.1 t32) ?_ ?_
    · rintro i v H3a H3 hi ⟨s3, vs, hV, hdv⟩ ⟨rfl, hx⟩
      obtain ⟨r, hr0, dr⟩ := da_atM t42 hx
      obtain ⟨rq, rfl, hrq⟩ := row_dp dr
      have rl := ht.len (List.mem_of_getElem? hr0)
      refine ⟨rfl, ?_⟩
      walk_at "rd"
      refine ⟨⟨_, sq (s3 _ _ hM)⟩, fun D3 hD3 => ?_⟩
      refine lc_it walk_list (fun j H' => H' = upd H3 D3 (.lst ((((wants t.1 l t.1).take j).map fun x => decide (V.int (r.getD x.1 0) = V.int x.2)).map V.bl))) rfl (fun j H' _ e => e ▸ sq (same_new hD3 _ _ (s3 _ _ hM))) ?_ ?_
      · rintro j v H4a H4 hj rfl ⟨rfl, hx2⟩
        obtain ⟨x, hx0, dx⟩ := da_atM hda2 hx2
        obtain ⟨q, xs, rfl, hq, ha⟩ := dp_tup dx
        have e2 : xs = [.int (x.1 : Nat), .int x.2] := by
          cases ha with
          | cons h1 h2 =>
            cases h2 with
            | cons h3 h4 =>
              cases h4
              rw [dp_int h1, dp_int h3]
        subst e2
        have s4 := same_new hD3 (o := .lst ((((wants t.1 l t.1).take j).map fun x => decide (V.int (r.getD x.1 0) = V.int x.2)).map V.bl))
        have xm := List.mem_of_getElem? hx0
        have x1 : x.1 < r.length := by
          unfold wants at xm
          obtain ⟨z, hz, rfl⟩ := List.mem_map.mp xm
          rw [rl]
          exact List.idxOf_lt_length_of_mem (List.mem_filter.mp hz).1
        refine ⟨_, _, rfl, Bx.Same.tup (s3.trans s4) hq, rfl, _, _, rfl, _, _, rfl, rfl, ?_⟩
        walk_at "rd"
        refine ⟨_, _, _, _, rfl, rfl, Bx.Same.tup (s3.trans s4) hrq, atI_nat (j := x.1) (v := .int (r.getD x.1 0)) (by rw [List.getElem?_map, List.getElem?_eq_getElem x1, List.getD_eq_getElem?_getD, List.getElem?_eq_getElem x1]; rfl), ?_⟩
        walk_at "rd"
        refine ⟨_, upd_same, ?_, ?_⟩
        · rw [List.length_map, List.length_map]
          exact szl (Nat.lt_of_le_of_lt (List.length_take_le' j _) (by omega))
        · rw [upd_upd, List.take_add_one, hx0, List.map_append, List.map_append]
          rfl
      rintro H4 rfl
      rw [wl, List.take_length]
      have s4 := same_new hD3 (o := .lst (((wants t.1 l t.1).map fun x => decide (V.int (r.getD x.1 0) = V.int x.2)).map V.bl))
      have hW := upd_same (H := H3) (a := D3) (o := .lst (((wants t.1 l t.1).map fun x => decide (V.int (r.getD x.1 0) = V.int x.2)).map V.bl))
      generalize upd H3 D3 (.lst (((wants t.1 l t.1).map fun x => decide (V.int (r.getD x.1 0) = V.int x.2)).map V.bl)) = H4 at s4 hW ⊢
      refine ⟨D3, _, rfl, sq hW, ?_⟩
      have eo : (((wants t.1 l t.1).map fun x => decide (V.int (r.getD x.1 0) = V.int x.2)).all id) = okR t.1 l r := rfl
      rw [eo]
      have ef : (t.2.take (i + 1)).filter (okR t.1 l) = (t.2.take i).filter (okR t.1 l) ++ if okR t.1 l r = true then [r] else [] := by
        rw [List.take_add_one, hr0, List.filter_append]
        congr 1
        by_cases c : okR t.1 l r = true <;> simp [c]
      rw [ef]
      refine ⟨_, rfl, ?_⟩
      refine ite2 (fun c => ?_) (fun c => ?_)
      · rw [if_pos c]
        walk_at "rd"
        have vl : vs.length < 100000 := by
          rw [da_len hdv, List.length_map]
          have z1 := List.length_filter_le (okR t.1 l) (t.2.take i)
          have z2 := List.length_take_le' i t.2
          omega
        refine ⟨vs, s4 _ _ hV, szl vl, same_at hD2 (s3.trans s4), vs ++ [.ref rq], upd_same, ?_⟩
        rw [List.map_append]
        exact da_app hdv (da_one (dp_row hrq))
      · rw [if_neg c, List.append_nil]
        exact ⟨s3.trans s4, vs, s4 _ _ hV, hdv⟩
    · rintro H3 ⟨s3, vs, hV, hdv⟩
      rw [l1, List.take_length] at hdv
      refine ⟨D2, _, rfl, .inl ⟨sq hV, fun tp ntp => ?_⟩⟩
      have s4 := same_new ntp (o := .tup vs)
      have htp := upd_same (H := H3) (a := tp) (o := .tup vs)
      generalize upd H3 tp (.tup vs) = H4 at s4 htp ⊢
      refine ⟨sz (by show 2 ≤ 100000; decide), fun R nR => ?_⟩
      have s5 := same_new nR (o := .tup [.ref a1, .ref tp])
      have s35 := s3.trans (s4.trans s5)
      exact q0 R _ (s2.trans s35) ⟨a1, tp, vs, sqt upd_same, PlT.same (s2.trans s35) t2, sqt (s5 _ _ htp), dpAll_same s35 hdv⟩
@[irreducible] def spCan (K : PySem.W.Frag) : Sp := fun vs H Q _ => ∃ (p d : Addr) (t : Tab) (l : As), vs = [.ref p, .ref d] ∧ TabAt K H p t ∧ TOk t ∧ t.1.length ≤ 5 ∧ H d = some (.dK (asV l)) ∧ ∀ H', Same H H' → Q (.bl (t.2.any (okR t.1 l))) H'
theorem ok_can_hold {f : Addr} {fd : FuncData} (F : Fun K "can_hold" "can_hold" s_can_hold f fd) (C_agreeing : Cal P w K mg base "agreeing" 1 ["constraint", "decided"] (spAgree K)) : FnOk P w K mg base CX0 2 f fd ["constraint", "decided"] (spCan K) := by
  refine F.ok sc_can_hold (fun vs H Q E h => ?_) (fun cdv A outer s H vs Q E hr h => ?_)
  · unfold spCan at h
    obtain ⟨p, d, t, l, rfl, _⟩ := h
    rfl
  · unfold spCan at h
    obtain ⟨p, d, t, l, rfl, hp, ht, tl, hd, q0⟩ := h
    refine ⟨_, (pss_one (ps_ret (pe_cmpR (op_neD hr.units) (pe_ix ix_tup (pe_cal C_agreeing (hr.mono (by decide)) (pa_cons (pv 0) (pa_cons (pv 1) pa_nil))) pe_int (fun _ _ => rfl)) (pe_tup pa_nil) (nomark _)))), ?_⟩
    walk_at "rd"
    show spAgree K _ _ _ _
    unfold spAgree
    refine ⟨p, d, t, l, rfl, hp, ht, tl, hd, fun r H1 s1 hr1 => ?_⟩
    obtain ⟨a1, b1, us1, t1, t2, t3, t4⟩ := hr1
    refine ⟨_, _, _, _, rfl, rfl, t1, atI_nat (j := 1) rfl, ?_⟩
    walk_at "rd"
    refine ⟨sz (by decide), fun N nN => ?_⟩
    have s2 := same_new nN (o := .tup ([] : List V))
    have hN := upd_same (H := H1) (a := N) (o := .tup ([] : List V))
    generalize upd H1 N (.tup []) = H2 at s2 hN ⊢
    refine ⟨_, _, .tup (Bx.Same.tup s2 t3) (dpAll_same s2 t4), .tup (sqt hN) .nil, shape (lay_tuple (lay_rows _)) (by decide), shape (n := 1) (lay_tuple lays_nil) (by decide), ?_⟩
    have e0 : ∀ L : List Row, (!PyData.eqv (.tuple (L.map rowD)) (.tuple [])) = !L.isEmpty := fun L => by cases L <;> rfl
    rw [e0, filter_some]
    exact q0 H2 (s1.trans s2)
end
end K21
namespace K21
open Go (tupD tupAll Tk tk_same Tk.trans tk_lst dp_tk da_tk)
open PySem PySem.Spec PyProof.Rows L2 Bx TL Dx Zx Ow Sup NdefX Px
local macro_rules | `(tactic| walk_at "rd") => `(tactic| repeat (first | refine ⟨rfl, ?_⟩ | refine ⟨_, rfl, ?_⟩ | refine ⟨_, _, rfl, rfl, ?_⟩ | refine ⟨⟨_, rfl⟩, ?_⟩))
local macro_rules
  | `(tactic| tm_at $s:str) => do
    let id (x : String) := Lean.mkIdent (Lean.Name.mkSimple x)
    match s.getString.splitOn " " with
    | ["rd"] => `(tactic| walk_at "rd")
    | ["sz"] => `(tactic| first | exact sz (by decide) | exact szl (by decide) | exact sz (by show _ ≤ 100000; decide) | ((first | refine sz ?_ | refine szl ?_); (try simp only [List.length_map, List.length_append, List.length_cons, List.length_nil, List.length_take, List.length_drop]); omega) | fail "sz: no bound")
    | ["gn", p, h] => `(tactic| (generalize hu : upd _ $(id p) _ = $(id ("H" ++ p)); obtain ⟨$(id ("s" ++ p)), $(id h)⟩ := Go.al $(id ("n" ++ p)) hu; clear hu))
    | ["al", p] => `(tactic| (refine ⟨by tm_at "sz", fun $(id p) $(id ("n" ++ p)) => ?_⟩; generalize hu : upd _ $(id p) _ = $(id ("H" ++ p)); obtain ⟨$(id ("s" ++ p)), $(id ("h" ++ p))⟩ := Go.al $(id ("n" ++ p)) hu; clear hu; tm_at "rd"))
    | ["al0", p] => `(tactic| (refine ⟨by tm_at "sz", fun $(id p) $(id ("n" ++ p)) => ?_⟩; generalize hu : upd _ $(id p) _ = $(id ("H" ++ p)); obtain ⟨$(id ("s" ++ p)), $(id ("h" ++ p))⟩ := Go.al $(id ("n" ++ p)) hu; clear hu; tm_at "rd"))
    | ["new", p] => `(tactic| (refine fun $(id p) $(id ("n" ++ p)) => ?_; generalize hu : upd _ $(id p) _ = $(id ("H" ++ p)); obtain ⟨$(id ("s" ++ p)), $(id ("h" ++ p))⟩ := Go.al $(id ("n" ++ p)) hu; clear hu; tm_at "rd"))
    | ["new0", p] => `(tactic| (refine fun $(id p) $(id ("n" ++ p)) => ?_; generalize hu : upd _ $(id p) _ = $(id ("H" ++ p)); obtain ⟨$(id ("s" ++ p)), $(id ("h" ++ p))⟩ := Go.al $(id ("n" ++ p)) hu; clear hu; tm_at "rd"))
    | ["up"] => `(tactic| first
        | assumption | exact sq (by assumption) | exact sqt (by assumption) | exact PlT.sq (by assumption)
        | (refine' Bx.Same.tup (by assumption) ?hh; (case hh => tm_at "up")) | (refine' Same.seq (by assumption) ?hh; (case hh => tm_at "up")) | (refine' Go.get (by assumption) ?hh; (case hh => tm_at "up")) | (refine' dpAll_same (by assumption) ?hh; (case hh => tm_at "up")) | (refine' dp_same (by assumption) ?hh; (case hh => tm_at "up")) | (refine' PlT.same (by assumption) ?hh; (case hh => tm_at "up")) | (refine' Go.srcS (by assumption) ?hh; (case hh => tm_at "up"))
        | (refine' Go.tupB (s := _) (by assumption) (by assumption) ?hh; (case hh => tm_at "up")) | (refine' Go.dkB (s := _) (by assumption) (by assumption) ?hh; (case hh => tm_at "up")) | (refine' Go.insB (s := _) (by assumption) (by assumption) ?hh; (case hh => tm_at "up")) | (refine' Go.pltB (s := _) (by assumption) (by assumption) ?hh; (case hh => tm_at "up"))
        | (refine' Go.getB (by assumption) (by first | assumption | exact Ne.symm (by assumption)) ?hh; (case hh => tm_at "up"))
        | (refine' sq ?hh; (case hh => tm_at "raw")) | (refine' sqt ?hh; (case hh => tm_at "raw")) | (refine' PlT.sq ?hh; (case hh => tm_at "raw")) | fail "up: no fact")
    | ["raw"] => `(tactic| first
        | assumption | (refine' Go.get (by assumption) ?hh; (case hh => tm_at "raw")) | (refine' PlT.same (by assumption) ?hh; (case hh => tm_at "raw")) | (refine' Go.pltB (s := _) (by assumption) (by assumption) ?hh; (case hh => tm_at "raw")) | (refine' Go.getB (by assumption) (by first | assumption | exact Ne.symm (by assumption)) ?hh; (case hh => tm_at "raw")) | fail "raw: no fact")
    | ["sq"] => `(tactic| first | exact .inl (by tm_at "up") | exact .inr (by tm_at "up") | fail "sq: no fact")
    | ["ix", j] => `(tactic| (refine ⟨_, _, _, _, rfl, rfl, by tm_at "up", by exact atI_nat (j := $(Lean.Syntax.mkNumLit j)) rfl, ?_⟩; tm_at "rd"))
    | ["ixh", h] => `(tactic| (refine ⟨_, _, _, _, rfl, rfl, by tm_at "up", by first | exact Go.at_mapV $(id h) | exact Go.at_mapZ $(id h) | exact atI_nat $(id h) | exact Go.at_nat0 $(id h), ?_⟩; tm_at "rd"))
    | ["len"] => `(tactic| (refine ⟨_, _, rfl, by tm_at "sq", ?_⟩; (try rw [List.length_map]); tm_at "rd"))
    | ["tp", p] => `(tactic| (refine ⟨_, _, rfl, .inl ⟨by tm_at "up", fun $(id p) $(id ("n" ++ p)) => ?_⟩⟩; generalize hu : upd _ $(id p) _ = $(id ("H" ++ p)); obtain ⟨$(id ("s" ++ p)), $(id ("h" ++ p))⟩ := Go.al $(id ("n" ++ p)) hu; clear hu; tm_at "rd"))
    | ["tp0", p] => `(tactic| (refine ⟨_, _, rfl, .inl ⟨by tm_at "up", fun $(id p) $(id ("n" ++ p)) => ?_⟩⟩; generalize hu : upd _ $(id p) _ = $(id ("H" ++ p)); obtain ⟨$(id ("s" ++ p)), $(id ("h" ++ p))⟩ := Go.al $(id ("n" ++ p)) hu; clear hu; tm_at "rd"))
    | ["ls", p] => `(tactic| (refine ⟨_, _, rfl, by tm_at "sq", fun $(id p) $(id ("n" ++ p)) => ?_⟩; generalize hu : upd _ $(id p) _ = $(id ("H" ++ p)); obtain ⟨$(id ("s" ++ p)), $(id ("h" ++ p))⟩ := Go.al $(id ("n" ++ p)) hu; clear hu; tm_at "rd"))
    | ["ls0", p] => `(tactic| (refine ⟨_, _, rfl, by tm_at "sq", fun $(id p) $(id ("n" ++ p)) => ?_⟩; generalize hu : upd _ $(id p) _ = $(id ("H" ++ p)); obtain ⟨$(id ("s" ++ p)), $(id ("h" ++ p))⟩ := Go.al $(id ("n" ++ p)) hu; clear hu; tm_at "rd"))
    | ["tf", p] => `(tactic| (refine ⟨_, _, rfl, by tm_at "up", fun $(id p) $(id ("o" ++ p)) $(id ("n" ++ p)) $(id ("d" ++ p)) => ?_⟩; generalize hu : upd _ $(id p) _ = $(id ("H" ++ p)); obtain ⟨$(id ("s" ++ p)), $(id ("h" ++ p))⟩ := Go.alF $(id ("n" ++ p)) $(id ("d" ++ p)) hu; clear hu; tm_at "rd"))
    | ["alF", p] => `(tactic| (refine ⟨by tm_at "sz", fun $(id p) $(id ("o" ++ p)) $(id ("n" ++ p)) $(id ("d" ++ p)) => ?_⟩; generalize hu : upd _ $(id p) _ = $(id ("H" ++ p)); obtain ⟨$(id ("s" ++ p)), $(id ("h" ++ p))⟩ := Go.alF $(id ("n" ++ p)) $(id ("d" ++ p)) hu; clear hu; tm_at "rd"))
    | ["bare", k] => `(tactic| (refine fun $(id k) $(id ("d" ++ k)) $(id ("n" ++ k)) $(id ("nd" ++ k)) $(id ("ne" ++ k)) => ?_; generalize hu : upd (upd _ $(id ("d" ++ k)) _) $(id k) _ = $(id ("H" ++ k)); obtain ⟨$(id ("s" ++ k)), $(id ("h" ++ k))⟩ := Go.bare $(id ("n" ++ k)) $(id ("nd" ++ k)) $(id ("ne" ++ k)) hu; clear hu; walk_at "rd"))
    | ["me"] => `(tactic| (refine ⟨_, _, _, rfl, by tm_at "up", rfl, ?_⟩; walk_at "rd"))
    | ["star"] => `(tactic| ((first | refine ⟨_, _, rfl, .inl (by tm_at "up"), ?_⟩ | refine ⟨_, _, rfl, .inr (by tm_at "up"), ?_⟩ | fail "star"); walk_at "rd"))
    | ["ap0"] => `(tactic| (refine ⟨.inl ⟨rfl, _, by tm_at "up"⟩, ?_⟩; tm_at "rd"))
    | ["ap"] => `(tactic| refine ⟨_, _, _, rfl, rfl, by tm_at "up", by tm_at "sz", ?_⟩)
    | ["un", n] => match n with
      | "2" => `(tactic| (refine ⟨_, _, rfl, by tm_at "up", rfl, _, _, rfl, _, _, rfl, rfl, ?_⟩; tm_at "rd"))
      | _ => `(tactic| (refine ⟨_, _, rfl, by tm_at "up", rfl, _, _, rfl, _, _, rfl, _, _, rfl, rfl, ?_⟩; tm_at "rd"))
    | _ => Lean.Macro.throwUnsupported
def pool6 : List Str := ["a", "a.k", "b", "b1", "c", "z9"]
theorem pool_asc : Asc pool6 := by
  unfold Asc
  decide +kernel
def ext (r : Row) : List Row := (List.range 3).map fun i => r ++ [((i : Nat) : Int)]
theorem rowsN_ext (n : Nat) : rowsN (n + 1) = (rowsN n).flatMap ext := rfl
section
variable {P : Program} {w : World} {K : PySem.W.Frag} {mg : Str → Option Value} {base : Heap}
/-! ### the law's own: draws -/
theorem int_at {ns : List Int} {k : Nat} (h : k < ns.length) : atI (ns.map V.int) (k : Int) = some (V.int ns[k]) := atI_nat (by rw [List.getElem?_map, List.getElem?_eq_getElem h]; rfl)
def spSource (K : PySem.W.Frag) : Sp := fun vs H Q _ => ∃ (a : Addr) (ns : List Int) (k : Nat), vs = [.ref a, .int (k : Int)] ∧ SqL K H a (ns.map V.int) ∧ k ≤ 100 ∧ ∀ p n c, H p = none → Q (.ref p) (upd H p (.lst [.int n, .int c]))
theorem ok_source {f : Addr} {fd : FuncData} (F : Fun K "_law_source" "_law_source" s__law_source f fd) (m_len : mg "len" = none) (m_int : mg "int" = none) : FnOk P w K mg base CX0 1 f fd ["_law_script", "_law_k"] (spSource K) := by
  refine F.ok sc__law_source (fun vs H Q E h => ?_) (fun cdv A outer s H vs Q E hr h => ?_)
  · obtain ⟨a, ns, k, rfl, _⟩ := h
    rfl
  · obtain ⟨a, ns, k, rfl, hS, hk, q⟩ := h
    refine ⟨_, (pss_cons (ps_set (i := 2) sc__law_source.nd rfl (Or.inl rfl) pe_int)
    (pss_cons (ps_if (pt_cmpR op_lt (pv 1) (pe_callB call_len_seq (by rfl) m_len PySem.boot_len (pa_cons (pv 0) pa_nil)) (nomark _))
      (pss_one (ps_set (i := 2) sc__law_source.nd rfl (Or.inl rfl) (pe_callTy (T := "int") call_int1 (by rfl) m_int (by decide +kernel) (pa_cons (pe_ix ix_list (pv 0) (pv 1) (fun _ _ => rfl)) pa_nil))))
      pss_nil)
    (pss_one (ps_ret (pe_lst (pa_cons (pv 2) (pa_cons (pe_op op_add (pe_op op_mul pe_int (pv 1)) (pe_callB call_len_seq (by rfl) m_len PySem.boot_len (pa_cons (pv 0) pa_nil))) pa_nil))))))), ?_⟩
    walk_at "rd"
    refine ⟨_, _, rfl, .inl hS, ?_⟩
    walk_at "rd"
    refine ite2 (fun h0 => ?_) (fun h0 => ?_)
    · have h1 : (k : Int) < ((ns.map V.int).length : Nat) := of_decide_eq_true h0
      rw [List.length_map] at h1
      walk_at "rd"
      refine ⟨_, _, _, _, rfl, rfl, hS, int_at (k := k) (by omega), ?_⟩
      refine .inl ⟨_, rfl, ?_⟩
      walk_at "rd"
      refine ⟨.inr ⟨by omega, by omega⟩, ?_⟩
      walk_at "rd"
      refine ⟨_, _, rfl, .inl hS, ?_⟩
      walk_at "rd"
      exact ⟨sz (by show 2 ≤ 100000; decide), fun p np => q p _ _ np⟩
    · walk_at "rd"
      refine ⟨.inr ⟨by omega, by omega⟩, ?_⟩
      walk_at "rd"
      refine ⟨_, _, rfl, .inl hS, ?_⟩
      walk_at "rd"
      exact ⟨sz (by show 2 ≤ 100000; decide), fun p np => q p _ _ np⟩
theorem modb (x : Int) {k : Int} (h : 0 < k) (h2 : k ≤ 2 ^ 64) : -(2 ^ 64) < x % k ∧ x % k < 2 ^ 64 := by
  have a := Int.emod_nonneg x (show k ≠ 0 by omega)
  have b := Int.emod_lt_of_pos x h
  omega
@[irreducible] def spDraw : Sp := fun vs H Q _ => ∃ (a : Addr) (n c lim : Int), vs = [.ref a, .int lim] ∧ H a = some (.lst [.int n, .int c]) ∧ 0 < lim ∧ lim < 1073741824 ∧ ∀ r n' c', 0 ≤ r → r < lim → Q (.int r) (upd H a (.lst [.int n', .int c']))
theorem ok_draw {f : Addr} {fd : FuncData} (F : Fun K "_law_draw" "_law_draw" s__law_draw f fd) (m_int : mg "int" = none) : FnOk P w K mg base CX0 1 f fd ["_law_source_here", "_law_limit"] spDraw := by
  refine F.ok sc__law_draw (fun vs H Q E h => ?_) (fun cdv A outer s H vs Q E hr h => ?_)
  · unfold spDraw at h
    obtain ⟨a, n, c, lim, rfl, _⟩ := h
    rfl
  · unfold spDraw at h
    obtain ⟨a, n, c, lim, rfl, hA, h0, h1, q⟩ := h
    have hfm : ∀ x : Int, 0 ≤ x.fmod lim ∧ x.fmod lim < lim := fun x => by
      rw [Int.fmod_eq_emod_of_nonneg _ (by omega)]
      exact ⟨Int.emod_nonneg _ (by omega), Int.emod_lt_of_pos _ h0⟩
    refine ⟨_, (pss_cons (ps_set (i := 2) sc__law_draw.nd rfl (Or.inl rfl) (pe_ix ix_list (pv 0) pe_int (fun _ _ => rfl)))
    (pss_cons (ps_if (pt_cmpR op_ge (pv 2) (pe_op op_pow pe_int pe_int) (nomark _))
      (pss_cons (ps_asg (pe_op op_fdivN (pv 2) (pv 1)) (pg_sub (pv 0) pe_int set_list))
    (pss_one (ps_ret (pe_op op_modN (pe_callTy (T := "int") call_int1 (by rfl) m_int (by decide +kernel) (pa_cons (pv 2) pa_nil)) (pv 1)))))
      pss_nil)
    (pss_cons (ps_asg (pe_op op_add (pe_ix ix_list (pv 0) pe_int (fun _ _ => rfl)) pe_int) (pg_sub (pv 0) pe_int set_list))
    (pss_cons (ps_set (i := 3) sc__law_draw.nd rfl (Or.inl rfl) (pe_op op_mod (pe_callTy (T := "int") call_int1 (by rfl) m_int (by decide +kernel) (pa_cons (pe_op op_add (pe_op op_add (pe_op op_mul (pv 2) pe_int) (pe_op op_mul (pe_ix ix_list (pv 0) pe_int (fun _ _ => rfl)) pe_int)) pe_int) pa_nil)) pe_int))
    (pss_cons (ps_set (i := 3) sc__law_draw.nd rfl (Or.inl rfl) (pe_op op_mod (pe_callTy (T := "int") call_int1 (by rfl) m_int (by decide +kernel) (pa_cons (pe_op op_add (pe_op op_add (pe_op op_mul (pv 3) (pv 3)) (pv 2)) (pe_op op_mul (pe_ix ix_list (pv 0) pe_int (fun _ _ => rfl)) pe_int)) pa_nil)) pe_int))
    (pss_cons (ps_set (i := 3) sc__law_draw.nd rfl (Or.inl rfl) (pe_op op_mod (pe_callTy (T := "int") call_int1 (by rfl) m_int (by decide +kernel) (pa_cons (pe_op op_add (pe_op op_add (pe_op op_mul (pv 3) (pv 3)) (pe_op op_fdiv (pv 3) pe_int)) pe_int) pa_nil)) pe_int))
    (pss_one (ps_ret (pe_op op_modN (pe_op op_fdiv (pe_callTy (T := "int") call_int1 (by rfl) m_int (by decide +kernel) (pa_cons (pv 3) pa_nil)) pe_int) (pv 1)))))))))), ?_⟩
    walk_at "rd"
    refine ⟨_, _, _, _, rfl, rfl, sq hA, atI_nat (j := 0) rfl, ?_⟩
    walk_at "rd"
    refine ⟨⟨by decide, by decide, by decide⟩, ?_⟩
    walk_at "rd"
    refine ite2 (fun hb => ?_) (fun hb => ?_)
    · walk_at "rd"
      refine ⟨⟨by omega, by omega⟩, ?_⟩
      walk_at "rd"
      refine ⟨_, _, _, 0, rfl, rfl, hA, rfl, ?_⟩
      walk_at "rd"
      refine .inl ⟨_, rfl, ?_⟩
      walk_at "rd"
      refine ⟨by omega, ?_⟩
      exact q _ _ _ (hfm _).1 (hfm _).2
    · walk_at "rd"
      refine ⟨_, _, _, _, rfl, rfl, sq hA, atI_nat (j := 1) rfl, ?_⟩
      walk_at "rd"
      refine ⟨_, _, _, 1, rfl, rfl, hA, rfl, ?_⟩
      -- the first mixing
      walk_at "rd"
      refine ⟨.inr ⟨by decide, by decide⟩, ?_⟩
      walk_at "rd"
      refine ⟨_, _, _, _, rfl, rfl, sq upd_same, atI_nat (j := 1) rfl, ?_⟩
      walk_at "rd"
      refine ⟨.inr ⟨by decide, by decide⟩, ?_⟩
      walk_at "rd"
      refine .inl ⟨_, rfl, ?_⟩
      walk_at "rd"
      refine ⟨by show (0 : Int) < 2147483647; decide, ?_⟩
      -- the second
      walk_at "rd"
      refine ⟨.inl (modb _ (by decide) (by decide)), ?_⟩
      walk_at "rd"
      refine ⟨_, _, _, _, rfl, rfl, sq upd_same, atI_nat (j := 1) rfl, ?_⟩
      walk_at "rd"
      refine ⟨.inr ⟨by decide, by decide⟩, ?_⟩
      walk_at "rd"
      refine .inl ⟨_, rfl, ?_⟩
      walk_at "rd"
      refine ⟨by show (0 : Int) < 2147483629; decide, ?_⟩
      -- the third
      walk_at "rd"
      refine ⟨.inl (modb _ (by decide) (by decide)), ?_⟩
      walk_at "rd"
      refine ⟨⟨by decide, by decide⟩, ?_⟩
      walk_at "rd"
      refine .inl ⟨_, rfl, ?_⟩
      walk_at "rd"
      refine ⟨by show (0 : Int) < 2147483587; decide, ?_⟩
      -- the answer
      walk_at "rd"
      refine .inl ⟨_, rfl, ?_⟩
      walk_at "rd"
      refine ⟨⟨by decide, by decide⟩, ?_⟩
      walk_at "rd"
      refine ⟨by omega, ?_⟩
      exact q _ _ _ (hfm _).1 (hfm _).2
/-- some other source, or none -/
theorem draw_of {H : Hp} {a : Addr} {lim : Int} {Q : VK} {E : XK} (hA : Src H a) (h0 : 0 < lim ∧ lim < 1073741824) (q : ∀ r H', 0 ≤ r → r < lim → SameBut a H H' → Src H' a → Q (.int r) H') : spDraw [.ref a, .int lim] H Q E := by
  obtain ⟨n, c, hA⟩ := hA
  unfold spDraw
  exact ⟨a, n, c, lim, rfl, hA, h0.1, h0.2, fun r n' c' h1 h2 => q r _ h1 h2 SameBut.upd ⟨n', c', upd_same⟩⟩


abbrev CDraw (P : Program) (w : World) (K : PySem.W.Frag) (mg : Str → Option Value) (base : Heap) : Prop := Cal P w K mg base "_law_draw" 1 ["_law_source_here", "_law_limit"] spDraw
theorem sub_snoc {ms ns : List Str} {i : Nat} {n : Str} (h : ms.Sublist (ns.take i)) (hn : ns[i]? = some n) : (ms ++ [n]).Sublist (ns.take (i + 1)) := by
  rw [List.take_add_one, hn]
  exact h.append (List.Sublist.refl _)
theorem sub_skip {ms ns : List Str} {i : Nat} (h : ms.Sublist (ns.take i)) : ms.Sublist (ns.take (i + 1)) := by
  rw [List.take_add_one]
  exact h.trans (List.sublist_append_left _ _)
theorem sqt_but {H H' : Hp} {s a : Addr} {xs : List V} (hs : Src H s) (sb : SameBut s H H') (h : SqT K H a xs) : SqT K H' a xs := by
  obtain ⟨n, c, hs⟩ := hs
  rcases h with (h | ⟨u, h⟩) | h
  · exact .inl (.inl (sb _ _ (fun z => by rw [z, hs] at h; cases h) h))
  · exact .inl (.inr ⟨u, sb _ _ (fun z => by rw [z, hs] at h; cases h) h⟩)
  · exact .inr h
theorem seq_but {H H1 : Hp} {a s : Addr} {xs : List V} {R : It → Hp → Prop} (hs : Src H s) (h : (a ≠ s ∧ H a = some (.lst xs)) ∨ SqT K H a xs) (b : SameBut s H H1) (k : ∀ (J : It) (G : Hp → Prop), Walk J xs.length G (YAt xs) → (∀ H', SameBut s H H' → G H') → R J H1) : SeqCase K a H1 R := by
  rcases h with ⟨n, h⟩ | h
  · exact .inl ⟨⟨_, sq (b _ _ n h)⟩, k _ _ walk_list fun H' c => sq (c _ _ n h)⟩
  · exact .inr ⟨⟨_, sqt_but hs b h⟩, k _ _ walk_tup fun H' c => sqt_but hs c h⟩
@[irreducible] def spSome (K : PySem.W.Frag) : Sp := fun vs H Q _ => ∃ (s a : Addr) (ns : List Str) (k : Int), vs = [.ref s, .ref a, .int k] ∧ Src H s ∧ (a ≠ s ∧ H a = some (.lst (ns.map V.str)) ∨ SqT K H a (ns.map V.str)) ∧ ns.length ≤ 20 ∧ k ≤ 8 ∧ ∀ r (ms : List Str) H', SameBut s H H' → Src H' s → H r = none → H' r = some (.lst (ms.map V.str)) → (ms.length = 0 ∨ (ms.length : Int) ≤ k) → ms.Sublist ns → Q (.ref r) H'
theorem ok_some {f : Addr} {fd : FuncData} (F : Fun K "_law_some" "_law_some" s__law_some f fd) (m_len : mg "len" = none) (C__law_draw : CDraw P w K mg base) : FnOk P w K mg base CX0 2 f fd ["_law_source_here", "_law_names", "_law_most"] (spSome K) := by
  refine F.ok sc__law_some (fun vs H Q E h => ?_) (fun cdv A outer s H vs Q E hr h => ?_)
  · unfold spSome at h
    obtain ⟨s, a, ns, k, rfl, _⟩ := h
    rfl
  · unfold spSome at h
    obtain ⟨src, a, ns, k, rfl, hA, hN, hnl, hk, q⟩ := h
    refine ⟨_, (pss_cons (ps_set (i := 3) sc__law_some.nd rfl (Or.inl rfl) (pe_lst pa_nil))
    (pss_cons (ps_for PassesOwn.never rfl (pi_seq (pv 1)) (pg_name (i := 4) sc__law_some.nd rfl (Or.inl rfl))
      (pss_one (ps_if (PW.pt (pw_and (pt_cmpR op_lt (pe_callB call_len_seq (by rfl) m_len PySem.boot_len (pa_cons (pv 3) pa_nil)) (pv 2) (nomark _)) (pw_and1 (pt_cmpR op_gt (pe_cal C__law_draw (hr.mono (by decide)) (pa_cons (pv 0) (pa_cons pe_int pa_nil))) pe_int (nomark _)))))
      (pss_one (ps_expr (pe_bm PySem.F.plainAttrs_list PySem.F.slot_list_append PySem.F.type_list_append mt_append (pv 3) (pa_cons (pv 4) pa_nil))))
      pss_nil)))
    (pss_one (ps_ret (pv 3))))), ?_⟩
    walk_at "rd"
    tm_at "al l"
    have nls : l ≠ src := (src_ne hA nl).symm
    refine seq_but hA hN (Bx.Same.but sl) fun J G wk hG => ?_
    rw [List.length_map] at wk
    refine for_it wk (fun i σ H' => ∃ (o4 : Option V) (ms : List Str), σ = [some (.ref src), some (.ref a), some (.int k), some (.ref l), o4] ∧ SameBut src H H' ∧ Src H' src ∧ H' l = some (.lst (ms.map V.str)) ∧ ms.Sublist (ns.take i) ∧ (ms.length = 0 ∨ (ms.length : Int) ≤ k)) ⟨none, [], rfl, Bx.Same.but sl, src_same hA sl, hl, List.nil_sublist _, .inl rfl⟩ (fun i σ H' _ ⟨_, _, _, s, _⟩ => hG _ s) ?_ ?_
    · rintro i x σ H1 H2 hi ⟨o4, ms, rfl, s1, hA1, hl, hm, hml⟩ ⟨rfl, hx⟩
      obtain ⟨n, hn, rfl⟩ := at_map hx
      walk_at "rd"
      tm_at "len"
      refine ite2 (fun h0 => ?_) (fun h0 => ?_)
      · have h1 : (ms.length : Int) < k := of_decide_eq_true h0
        walk_at "rd"
        refine draw_of hA1 ⟨by decide, by decide⟩ fun d H3 _ _ s3 hA3 => ?_
        walk_at "rd"
        refine ite2 (fun _ => ?_) (fun _ => ?_)
        · walk_at "rd"
          tm_at "ap0"
          tm_at "ap"
          refine ⟨_, ms ++ [n], rfl, but_at nl (s1.trans s3), src_upd hA3 nls.symm, by rw [upd_same, List.map_append]; rfl, sub_snoc hm hn, .inr (by rw [List.length_append]; show ((ms.length + 1 : Nat) : Int) ≤ k; omega)⟩
        · walk_at "rd"
          exact ⟨_, ms, rfl, s1.trans s3, hA3, by tm_at "up", sub_skip hm, hml⟩
      · walk_at "rd"
        exact ⟨_, ms, rfl, s1, hA1, hl, sub_skip hm, hml⟩
    · rintro σ H1 ⟨o4, ms, rfl, s1, hA1, hl, hm, hml⟩
      walk_at "rd"
      rw [List.take_length] at hm
      exact q l ms H1 s1 hA1 nl hl hml hm
@[irreducible] def spRows (K : PySem.W.Frag) : Sp := fun vs H Q _ => ∃ n : Nat, vs = [.int (n : Nat)] ∧ n ≤ 5 ∧ ∀ (r : Addr) (us : List V) (H' : Hp), Same H H' → H r = none → H' r = some (.lst us) → DpAll K H' us ((rowsN n).map rowD) → Q (.ref r) H'
set_option maxHeartbeats 2000000 in
theorem ok_rows {f : Addr} {fd : FuncData} (F : Fun K "_law_all_rows" "_law_all_rows" s__law_all_rows f fd) (m_range : mg "range" = none) (m_list : mg "list" = none) : FnOk P w K mg base CX0 1 f fd ["_law_count"] (spRows K) := by
  refine F.ok sc__law_all_rows (fun vs H Q E h => ?_) (fun cdv A outer s H vs Q E hr h => ?_)
  · unfold spRows at h
    obtain ⟨n, rfl, _⟩ := h
    rfl
  · unfold spRows at h
    obtain ⟨n, rfl, hn, q⟩ := h
    have num : ∀ k, k ≤ 5 → (rowsN k).length ≤ 243 := fun k hk => by
      rw [rowsN_num]
      exact Nat.pow_le_pow_right (by decide) hk
    refine ⟨_, (pss_cons (ps_set (i := 1) sc__law_all_rows.nd rfl (Or.inl rfl) (pe_lst (pa_cons (pe_tup pa_nil) pa_nil)))
    (pss_cons (ps_for PassesOwn.never rfl (pi_range1 (by rfl) m_range (pa_cons (pv 0) pa_nil)) (pg_name (i := 2) sc__law_all_rows.nd rfl (Or.inl rfl))
      (pss_cons (ps_set (i := 3) sc__law_all_rows.nd rfl (Or.inl rfl) (pe_lst pa_nil))
    (pss_cons (ps_for PassesOwn.never rfl (pi_list (pv 1)) (pg_name (i := 4) sc__law_all_rows.nd rfl (Or.inl rfl))
      (pss_one (ps_for PassesOwn.never rfl (pi_range1 (by rfl) m_range (pa_cons pe_int pa_nil)) (pg_name (i := 5) sc__law_all_rows.nd rfl (Or.inl rfl))
      (pss_one (ps_expr (pe_bm PySem.F.plainAttrs_list PySem.F.slot_list_append PySem.F.type_list_append mt_append (pv 3) (pa_cons (pe_op op_catA (pv 4) (pe_tup (pa_cons (pv 5) pa_nil))) pa_nil)))))))
    (pss_one (ps_set (i := 1) sc__law_all_rows.nd rfl (Or.inl rfl) (pe_callTy (T := "list") call_list_of (by rfl) m_list (by decide +kernel) (pa_cons (pv 3) pa_nil)))))))
    (pss_one (ps_ret (pv 1))))), ?_⟩
    walk_at "rd"
    refine ⟨sz (by decide), fun e0 ne0 => ?_⟩
    have s1 := same_new ne0 (o := .tup ([] : List V))
    have he0 := upd_same (H := H) (a := e0) (o := .tup ([] : List V))
    generalize upd H e0 (.tup []) = H1 at s1 he0 ⊢
    refine ⟨sz (by show 1 ≤ 100000; decide), fun F0 nF0 => ?_⟩
    have s2 := same_new nF0 (o := .lst [.ref e0])
    have hF0 := upd_same (H := H1) (a := F0) (o := .lst [.ref e0])
    have nF00 := s1.free nF0
    have he2 := s2 _ _ he0
    have s02 := s1.trans s2
    generalize upd H1 F0 (.lst [.ref e0]) = H2 at s2 hF0 he2 s02 ⊢
    walk_at "rd"
    refine ⟨by omega, by omega, for_it walk_range (fun k σ H' => ∃ (o2 o3 o4 o5 : Option V) (Fa : Addr) (us : List V), σ = [some (.int (n : Nat)), some (.ref Fa), o2, o3, o4, o5] ∧ Same H H' ∧ H Fa = none ∧ H' Fa = some (.lst us) ∧ DpAll K H' us ((rowsN k).map rowD))
      ⟨none, none, none, none, F0, [.ref e0], rfl, s02, nF00, hF0, da_one (dp_row (r := []) (sqt he2))⟩ (fun _ _ _ _ _ => trivial) ?_ ?_⟩
    · rintro k x σ H3a H3 hk ⟨o2, o3, o4, o5, Fa, us, rfl, s3, nFa, hFa, da⟩ ⟨rfl, rfl⟩
      have hk2 : k < 5 := by omega
      have ll := num k (by omega)
      have ulen : us.length = (rowsN k).length := by rw [da_len da, List.length_map]
      walk_at "rd"
      refine ⟨sz (by decide), fun M nM => ?_⟩
      have s4 := same_new nM (o := .lst ([] : List V))
      have hM := upd_same (H := H3) (a := M) (o := .lst ([] : List V))
      generalize upd H3 M (.lst []) = H4 at s4 hM ⊢
      have nM0 := s3.free nM
      walk_at "rd"
      have hFa4 := s4 _ _ hFa
      refine ⟨⟨_, sq hFa4⟩, for_it walk_list (fun j σ H' => ∃ (o4 o5 : Option V) (ws : List V), σ = [some (.int (n : Nat)), some (.ref Fa), some (.int (0 + (k : Nat))), some (.ref M), o4, o5] ∧ Same H3 H' ∧ H' M = some (.lst ws) ∧ DpAll K (mn H' [M]) ws ((((rowsN k).take j).flatMap ext).map rowD) ∧ ws.length = 3 * j)
        ⟨o4, o5, [], rfl, s4, hM, .nil, rfl⟩ (fun j σ H' _ ⟨_, _, _, _, s, _⟩ => sq (s _ _ hFa)) ?_ ?_⟩
      · rintro j x σ H5a H5 hj ⟨o4, o5, ws, rfl, s5, hM5, dm, wl⟩ ⟨rfl, hx⟩
        obtain ⟨r, hr0, dr⟩ := da_atM da hx
        obtain ⟨rq, rfl, hrq⟩ := row_dp dr
        have rl := rowsN_len k r (List.mem_of_getElem? hr0)
        walk_at "rd"
        refine ⟨by omega, by omega, for_it walk_range (fun v σ H' => ∃ (o5 : Option V) (ws : List V), σ = [some (.int (n : Nat)), some (.ref Fa), some (.int (0 + (k : Nat))), some (.ref M), some (.ref rq), o5] ∧ Same H3 H' ∧ H' M = some (.lst ws) ∧ DpAll K (mn H' [M]) ws (((((rowsN k).take j).flatMap ext) ++ ((List.range v).map fun i => r ++ [((i : Nat) : Int)])).map rowD) ∧ ws.length = 3 * j + v)
          ⟨o5, ws, rfl, s5, hM5, by rw [List.range_zero, List.map_nil, List.append_nil]; exact dm, wl⟩ (fun _ _ _ _ _ => trivial) ?_ ?_⟩
        · rintro v x σ H6a H6 hv ⟨o5, ws, rfl, s6, hM6, dm, wl⟩ ⟨rfl, hxv⟩
          have hx0 : x = V.int ((v : Nat) : Int) := by
            rw [hxv]
            show V.int (0 + ((v : Nat) : Int)) = _
            rw [Int.zero_add]
          clear hxv
          subst hx0
          have hv2 : v < 3 := by
            have := hv
            omega
          walk_at "rd"
          refine ⟨.inl ⟨rfl, _, sq hM6⟩, ?_⟩
          walk_at "rd"
          refine ⟨sz (by show 1 ≤ 100000; decide), fun A1 nA1 => ?_⟩
          have s7 := same_new nA1 (o := .tup [V.int ((v : Nat) : Int)])
          have hA1 := upd_same (H := H6) (a := A1) (o := .tup [V.int ((v : Nat) : Int)])
          generalize upd H6 A1 (.tup [V.int ((v : Nat) : Int)]) = H7 at s7 hA1 ⊢
          have fin : ∀ (N : Addr) (H8 : Hp), Same H7 H8 → SqT K H8 N ((r ++ [((v : Nat) : Int)]).map V.int) → N ≠ M → ∃ l xs y, V.ref M = .ref l ∧ [V.ref N] = [y] ∧ H8 l = some (.lst xs) ∧ xs.length < sizeLine ∧ ∃ (o5 : Option V) (ws : List V), [some (.int (n : Nat)), some (.ref Fa), some (.int (0 + (k : Nat))), some (.ref M), some (.ref rq), some (.int ((v : Nat) : Int))] = [some (.int (n : Nat)), some (.ref Fa), some (.int (0 + (k : Nat))), some (.ref M), some (.ref rq), o5] ∧ Same H3 (upd H8 l (.lst (xs ++ [y]))) ∧ (upd H8 l (.lst (xs ++ [y]))) M = some (.lst ws) ∧ DpAll K (mn (upd H8 l (.lst (xs ++ [y]))) [M]) ws (((((rowsN k).take j).flatMap ext) ++ ((List.range (v + 1)).map fun i => r ++ [((i : Nat) : Int)])).map rowD) ∧ ws.length = 3 * j + (v + 1) := fun N H8 s8 hN NM => by
            have s68 := s7.trans s8
            refine ⟨M, ws, _, rfl, rfl, s68 _ _ hM6, szl (by omega), _, ws ++ [.ref N], rfl, same_at nM (s6.trans s68), upd_same, ?_, by rw [List.length_append, wl]; rfl⟩
            rw [mn_upd (by simp), List.range_succ, List.map_append (f := fun i : Nat => r ++ [((i : Nat) : Int)]), ← List.append_assoc, List.map_append (f := rowD)]
            refine da_app (dpAll_same (mn_all s68) dm) (da_one (dp_row (r := r ++ [((v : Nat) : Int)]) ?_))
            rcases hN with (h | ⟨o, h⟩) | h
            · exact .inl (.inl (mn_at (by simp [NM]) h))
            · exact .inl (.inr ⟨o, mn_at (by simp [NM]) h⟩)
            · exact .inr h
          have hA1M : A1 ≠ M := fun e => by
            rw [e, hM6] at nA1
            cases nA1
          have hrq6 := Bx.Same.tup (s6.trans s7) hrq
          refine ⟨rq, A1, r.map V.int, [.int ((v : Nat) : Int)], rfl, rfl, hrq6, sqt hA1, sz (by rw [List.length_map, rl]; show k + 1 ≤ 100000; omega), fun e => ?_, fun _ e => (by cases e), fun _ _ N nN => ?_⟩
          · have er : r = [] := List.map_eq_nil_iff.mp e
            exact fin A1 H7 (Same.refl H7) (by rw [er]; exact sqt hA1) hA1M
          · have s8 := same_new nN (o := .tup (r.map V.int ++ [V.int ((v : Nat) : Int)]))
            have NM : N ≠ M := fun e => by
              rw [e, s7 _ _ hM6] at nN
              cases nN
            exact fin N _ s8 (by rw [List.map_append]; exact sqt upd_same) NM
        · rintro σ H6 ⟨o5, ws, rfl, s6, hM6, dm, wl⟩
          walk_at "rd"
          refine ⟨_, _, ws, rfl, s6, hM6, ?_, by
            have e3 : ((3 : Int)).toNat = 3 := rfl
            rw [wl]
            show 3 * j + 3 = 3 * (j + 1)
            omega⟩
          rw [take_flat hr0]
          exact dm
      · rintro σ H5 ⟨o4, o5, ws, rfl, s5, hM5, dm, wl⟩
        rw [ulen, List.take_length] at dm
        walk_at "rd"
        refine ⟨M, _, rfl, .inl (sq hM5), fun Fb nFb => ?_⟩
        have s6 := same_new nFb (o := .lst ws)
        refine ⟨_, _, _, _, Fb, ws, rfl, s3.trans (s5.trans s6), (s3.trans s5).free nFb, upd_same, ?_⟩
        rw [rowsN_ext]
        exact dpAll_same s6 (dpAll_same mn_same dm)
    · rintro σ H3 ⟨o2, o3, o4, o5, Fa, us, rfl, s3, nFa, hFa, da⟩
      walk_at "rd"
      have e : (((n : Nat) : Int)).toNat = n := Int.toNat_natCast n
      rw [e] at da
      exact q Fa us H3 s3 nFa hFa da
end
end K21
namespace K21
open Go (tupD tupAll Tk tk_same Tk.trans tk_lst dp_tk da_tk)
open PySem PySem.Spec PyProof.Rows L2 Bx TL Dx Zx Ow Sup NdefX Px
local macro_rules | `(tactic| walk_at "rd") => `(tactic| repeat (first | refine ⟨rfl, ?_⟩ | refine ⟨_, rfl, ?_⟩ | refine ⟨_, _, rfl, rfl, ?_⟩ | refine ⟨⟨_, rfl⟩, ?_⟩))
local macro_rules
  | `(tactic| tm_at $s:str) => do
    let id (x : String) := Lean.mkIdent (Lean.Name.mkSimple x)
    match s.getString.splitOn " " with
    | ["rd"] => `(tactic| walk_at "rd")
    | ["sz"] => `(tactic| first | exact sz (by decide) | exact szl (by decide) | exact sz (by show _ ≤ 100000; decide) | ((first | refine sz ?_ | refine szl ?_); (try simp only [List.length_map, List.length_append, List.length_cons, List.length_nil, List.length_take, List.length_drop]); omega) | fail "sz: no bound")
    | ["gn", p, h] => `(tactic| (generalize hu : upd _ $(id p) _ = $(id ("H" ++ p)); obtain ⟨$(id ("s" ++ p)), $(id h)⟩ := Go.al $(id ("n" ++ p)) hu; clear hu))
    | ["al", p] => `(tactic| (refine ⟨by tm_at "sz", fun $(id p) $(id ("n" ++ p)) => ?_⟩; generalize hu : upd _ $(id p) _ = $(id ("H" ++ p)); obtain ⟨$(id ("s" ++ p)), $(id ("h" ++ p))⟩ := Go.al $(id ("n" ++ p)) hu; clear hu; tm_at "rd"))
    | ["al0", p] => `(tactic| (refine ⟨by tm_at "sz", fun $(id p) $(id ("n" ++ p)) => ?_⟩; generalize hu : upd _ $(id p) _ = $(id ("H" ++ p)); obtain ⟨$(id ("s" ++ p)), $(id ("h" ++ p))⟩ := Go.al $(id ("n" ++ p)) hu; clear hu; tm_at "rd"))
    | ["new", p] => `(tactic| (refine fun $(id p) $(id ("n" ++ p)) => ?_; generalize hu : upd _ $(id p) _ = $(id ("H" ++ p)); obtain ⟨$(id ("s" ++ p)), $(id ("h" ++ p))⟩ := Go.al $(id ("n" ++ p)) hu; clear hu; tm_at "rd"))
    | ["new0", p] => `(tactic| (refine fun $(id p) $(id ("n" ++ p)) => ?_; generalize hu : upd _ $(id p) _ = $(id ("H" ++ p)); obtain ⟨$(id ("s" ++ p)), $(id ("h" ++ p))⟩ := Go.al $(id ("n" ++ p)) hu; clear hu; tm_at "rd"))
    | ["up"] => `(tactic| first
        | assumption | exact sq (by assumption) | exact sqt (by assumption) | exact PlT.sq (by assumption)
        | (refine' Bx.Same.tup (by assumption) ?hh; (case hh => tm_at "up")) | (refine' Same.seq (by assumption) ?hh; (case hh => tm_at "up")) | (refine' Go.get (by assumption) ?hh; (case hh => tm_at "up")) | (refine' dpAll_same (by assumption) ?hh; (case hh => tm_at "up")) | (refine' dp_same (by assumption) ?hh; (case hh => tm_at "up")) | (refine' PlT.same (by assumption) ?hh; (case hh => tm_at "up")) | (refine' Go.srcS (by assumption) ?hh; (case hh => tm_at "up"))
        | (refine' Go.tupB (s := _) (by assumption) (by assumption) ?hh; (case hh => tm_at "up")) | (refine' Go.dkB (s := _) (by assumption) (by assumption) ?hh; (case hh => tm_at "up")) | (refine' Go.insB (s := _) (by assumption) (by assumption) ?hh; (case hh => tm_at "up")) | (refine' Go.pltB (s := _) (by assumption) (by assumption) ?hh; (case hh => tm_at "up"))
        | (refine' Go.getB (by assumption) (by first | assumption | exact Ne.symm (by assumption)) ?hh; (case hh => tm_at "up"))
        | (refine' sq ?hh; (case hh => tm_at "raw")) | (refine' sqt ?hh; (case hh => tm_at "raw")) | (refine' PlT.sq ?hh; (case hh => tm_at "raw")) | fail "up: no fact")
    | ["raw"] => `(tactic| first
        | assumption | (refine' Go.get (by assumption) ?hh; (case hh => tm_at "raw")) | (refine' PlT.same (by assumption) ?hh; (case hh => tm_at "raw")) | (refine' Go.pltB (s := _) (by assumption) (by assumption) ?hh; (case hh => tm_at "raw")) | (refine' Go.getB (by assumption) (by first | assumption | exact Ne.symm (by assumption)) ?hh; (case hh => tm_at "raw")) | fail "raw: no fact")
    | ["sq"] => `(tactic| first | exact .inl (by tm_at "up") | exact .inr (by tm_at "up") | fail "sq: no fact")
    | ["ix", j] => `(tactic| (refine ⟨_, _, _, _, rfl, rfl, by tm_at "up", by exact atI_nat (j := $(Lean.Syntax.mkNumLit j)) rfl, ?_⟩; tm_at "rd"))
    | ["ixh", h] => `(tactic| (refine ⟨_, _, _, _, rfl, rfl, by tm_at "up", by first | exact Go.at_mapV $(id h) | exact Go.at_mapZ $(id h) | exact atI_nat $(id h) | exact Go.at_nat0 $(id h), ?_⟩; tm_at "rd"))
    | ["len"] => `(tactic| (refine ⟨_, _, rfl, by tm_at "sq", ?_⟩; (try rw [List.length_map]); tm_at "rd"))
    | ["tp", p] => `(tactic| (refine ⟨_, _, rfl, .inl ⟨by tm_at "up", fun $(id p) $(id ("n" ++ p)) => ?_⟩⟩; generalize hu : upd _ $(id p) _ = $(id ("H" ++ p)); obtain ⟨$(id ("s" ++ p)), $(id ("h" ++ p))⟩ := Go.al $(id ("n" ++ p)) hu; clear hu; tm_at "rd"))
    | ["tp0", p] => `(tactic| (refine ⟨_, _, rfl, .inl ⟨by tm_at "up", fun $(id p) $(id ("n" ++ p)) => ?_⟩⟩; generalize hu : upd _ $(id p) _ = $(id ("H" ++ p)); obtain ⟨$(id ("s" ++ p)), $(id ("h" ++ p))⟩ := Go.al $(id ("n" ++ p)) hu; clear hu; tm_at "rd"))
    | ["ls", p] => `(tactic| (refine ⟨_, _, rfl, by tm_at "sq", fun $(id p) $(id ("n" ++ p)) => ?_⟩; generalize hu : upd _ $(id p) _ = $(id ("H" ++ p)); obtain ⟨$(id ("s" ++ p)), $(id ("h" ++ p))⟩ := Go.al $(id ("n" ++ p)) hu; clear hu; tm_at "rd"))
    | ["ls0", p] => `(tactic| (refine ⟨_, _, rfl, by tm_at "sq", fun $(id p) $(id ("n" ++ p)) => ?_⟩; generalize hu : upd _ $(id p) _ = $(id ("H" ++ p)); obtain ⟨$(id ("s" ++ p)), $(id ("h" ++ p))⟩ := Go.al $(id ("n" ++ p)) hu; clear hu; tm_at "rd"))
    | ["tf", p] => `(tactic| (refine ⟨_, _, rfl, by tm_at "up", fun $(id p) $(id ("o" ++ p)) $(id ("n" ++ p)) $(id ("d" ++ p)) => ?_⟩; generalize hu : upd _ $(id p) _ = $(id ("H" ++ p)); obtain ⟨$(id ("s" ++ p)), $(id ("h" ++ p))⟩ := Go.alF $(id ("n" ++ p)) $(id ("d" ++ p)) hu; clear hu; tm_at "rd"))
    | ["alF", p] => `(tactic| (refine ⟨by tm_at "sz", fun $(id p) $(id ("o" ++ p)) $(id ("n" ++ p)) $(id ("d" ++ p)) => ?_⟩; generalize hu : upd _ $(id p) _ = $(id ("H" ++ p)); obtain ⟨$(id ("s" ++ p)), $(id ("h" ++ p))⟩ := Go.alF $(id ("n" ++ p)) $(id ("d" ++ p)) hu; clear hu; tm_at "rd"))
    | ["bare", k] => `(tactic| (refine fun $(id k) $(id ("d" ++ k)) $(id ("n" ++ k)) $(id ("nd" ++ k)) $(id ("ne" ++ k)) => ?_; generalize hu : upd (upd _ $(id ("d" ++ k)) _) $(id k) _ = $(id ("H" ++ k)); obtain ⟨$(id ("s" ++ k)), $(id ("h" ++ k))⟩ := Go.bare $(id ("n" ++ k)) $(id ("nd" ++ k)) $(id ("ne" ++ k)) hu; clear hu; walk_at "rd"))
    | ["me"] => `(tactic| (refine ⟨_, _, _, rfl, by tm_at "up", rfl, ?_⟩; walk_at "rd"))
    | ["star"] => `(tactic| ((first | refine ⟨_, _, rfl, .inl (by tm_at "up"), ?_⟩ | refine ⟨_, _, rfl, .inr (by tm_at "up"), ?_⟩ | fail "star"); walk_at "rd"))
    | ["ap0"] => `(tactic| (refine ⟨.inl ⟨rfl, _, by tm_at "up"⟩, ?_⟩; tm_at "rd"))
    | ["ap"] => `(tactic| refine ⟨_, _, _, rfl, rfl, by tm_at "up", by tm_at "sz", ?_⟩)
    | ["un", n] => match n with
      | "2" => `(tactic| (refine ⟨_, _, rfl, by tm_at "up", rfl, _, _, rfl, _, _, rfl, rfl, ?_⟩; tm_at "rd"))
      | _ => `(tactic| (refine ⟨_, _, rfl, by tm_at "up", rfl, _, _, rfl, _, _, rfl, _, _, rfl, rfl, ?_⟩; tm_at "rd"))
    | _ => Lean.Macro.throwUnsupported
section
variable {P : Program} {w : World} {K : PySem.W.Frag} {mg : Str → Option Value} {base : Heap}
@[irreducible] def spTable (K : PySem.W.Frag) : Sp := fun vs H Q _ => ∃ (s na : Addr) (ms : List Str), vs = [.ref s, .ref na] ∧ Src H s ∧ SqT K H na (ms.map V.str) ∧ ms.length ≤ 6 ∧ ∀ p (t : Tab) H', SameBut s H H' → Src H' s → TabAt K H' p t → t.1.Sublist ms → t.1.length ≤ 3 → t.2.Sublist (rowsN t.1.length) → Q (.ref p) H'
set_option maxHeartbeats 2000000 in
theorem ok_table {f : Addr} {fd : FuncData} (F : Fun K "_law_table" "_law_table" s__law_table f fd) (m_len : mg "len" = none) (m_tuple : mg "tuple" = none) (C__law_draw : CDraw P w K mg base) (C__law_some : Cal P w K mg base "_law_some" 2 ["_law_source_here", "_law_names", "_law_most"] (spSome K)) (C__law_all_rows : Cal P w K mg base "_law_all_rows" 1 ["_law_count"] (spRows K)) : FnOk P w K mg base CX0 3 f fd ["_law_source_here", "_law_names"] (spTable K) := by
  refine F.ok sc__law_table (fun vs H Q E h => ?_) (fun cdv A outer s H vs Q E hr h => ?_)
  · unfold spTable at h
    obtain ⟨s, na, ms, rfl, _⟩ := h
    rfl
  · unfold spTable at h
    obtain ⟨src, na, pl, rfl, hA, hna, pl6, q⟩ := h
    refine ⟨_, (pss_cons (ps_set (i := 2) sc__law_table.nd rfl (Or.inl rfl) (pe_callTy (T := "tuple") call_tupleF (by rfl) m_tuple (by decide +kernel) (pa_cons (pe_cal C__law_some (hr.mono (by decide)) (pa_cons (pv 0) (pa_cons (pv 1) (pa_cons (pe_cal C__law_draw (hr.mono (by decide)) (pa_cons (pv 0) (pa_cons pe_int pa_nil))) pa_nil)))) pa_nil)))
    (pss_cons (ps_set (i := 3) sc__law_table.nd rfl (Or.inr rfl) (pe_cal C__law_draw (hr.mono (by decide)) (pa_cons (pv 0) (pa_cons pe_int pa_nil))))
    (pss_one (ps_ret (pe_tup (pa_cons (pv 2) (pa_cons (pe_callTy (T := "tuple") call_tupleF (by rfl) m_tuple (by decide +kernel) (pa_cons (pe_lc (own := [("_law_row", 4)]) rfl sc__law_table.nd (pi_list (pe_cal C__law_all_rows (hr.mono (by decide)) (pa_cons (pe_callB call_len_seq (by rfl) m_len PySem.boot_len (pa_cons (pv 2) pa_nil)) pa_nil))) (blkOk_by (N := n__law_table) (sc := defScope s__law_table) (by decide +kernel)) (fun _ _ _ _ _ => pg_name (i := 4) sc__law_table.nd rfl (Or.inl rfl)) (fun _ _ _ _ _ => pts_one (pt_cmpR op_ge (pe_cal C__law_draw (hr.mono (by decide)) (pa_cons (pv 0) (pa_cons pe_int pa_nil))) (pv 3) (nomark _))) (fun _ _ _ _ _ => (pv 4))) pa_nil)) pa_nil))))))), ?_⟩
    walk_at "rd"
    refine draw_of hA ⟨by decide, by decide⟩ fun k H1 k0 k1 s1 hA1 => ?_
    show spSome K _ _ _ _
    unfold spSome
    refine ⟨src, na, pl, k, rfl, hA1, .inr (sqt_but hA s1 hna), by omega, by omega, fun N ns H2 s2 hA2 nN hN hnl hnm => ?_⟩
    have b2 : SameBut src H H2 := s1.trans s2
    have nl3 : ns.length ≤ 3 := by omega
    have nNs : N ≠ src := fun e => by rw [e] at nN; exact (src_ne hA1 nN) rfl
    walk_at "rd"
    have hNs : SqL K H2 N (ns.map V.str) := sq hN
    tm_at "tf t1"
    have hA2' := src_same hA2 st1
    refine draw_of hA2' ⟨by decide, by decide⟩ fun sh H3 _ _ s3 hA3 => ?_
    walk_at "rd"
    refine ⟨_, _, rfl, .inr (PlT.sq (Go.pltB hA2' s3 ht1)), ?_⟩
    rw [List.length_map]
    walk_at "rd"
    show spRows K _ _ _ _
    unfold spRows
    refine ⟨ns.length, rfl, by omega, fun R us H4 s4 nR hR dR => ?_⟩
    have hA4 := src_same hA3 s4
    have nRs : R ≠ src := fun e => by rw [e] at nR; exact (src_ne hA3 nR) rfl
    have b4 : SameBut src H H4 := b2.trans ((Bx.Same.but st1).trans (s3.trans (Bx.Same.but s4)))
    have ul : us.length = (rowsN ns.length).length := by rw [da_len dR, List.length_map]
    have un : (rowsN ns.length).length ≤ 27 := by
      rw [rowsN_num]
      exact Nat.pow_le_pow_right (by decide) nl3
    refine ⟨R, rfl, ⟨_, sq hR⟩, fun D hD => ?_⟩
    have nDs := src_ne hA4 hD
    refine lc_it walk_list (fun i H' => SameBut src H4 H' ∧ Src H' src ∧ ∃ (vs : List V) (rs : List Row), H' D = some (.lst vs) ∧ DpAll K H4 vs (rs.map rowD) ∧ rs.Sublist ((rowsN ns.length).take i)) ⟨Bx.Same.but (same_new hD), src_upd hA4 nDs, [], [], upd_same, .nil, List.nil_sublist _⟩ (fun i H' _ h => sq (h.1 _ _ nRs hR)) ?_ ?_
    · rintro i v H5a H5 hi ⟨s5, hA5, vs, rs, hV, dv, sb⟩ ⟨rfl, hx⟩
      obtain ⟨r, hr0, dr⟩ := da_atM dR hx
      obtain ⟨rq, rfl, hrq⟩ := row_dp dr
      refine ⟨rfl, ?_⟩
      walk_at "rd"
      refine draw_of hA5 ⟨by decide, by decide⟩ fun x H6 _ _ s6 hA6 => ?_
      have hV6 := s6 _ _ nDs.symm hV
      walk_at "rd"
      have vl : vs.length ≤ 27 := by
        rw [da_len dv, List.length_map]
        have z1 := sb.length_le
        have z2 := List.length_take_le' i (rowsN ns.length)
        omega
      have tk1 : (rowsN ns.length).take (i + 1) = (rowsN ns.length).take i ++ [r] := by rw [List.take_add_one, hr0]; rfl
      refine ite2 (fun _ => ?_) (fun _ => ?_)
      · walk_at "rd"
        refine ⟨vs, hV6, szl (by omega), but_at hD (s5.trans s6), src_upd hA6 nDs, vs ++ [.ref rq], rs ++ [r], upd_same, ?_, ?_⟩
        · rw [List.map_append]
          exact da_app dv (da_one (dp_row hrq))
        · rw [tk1]
          exact sb.append (List.Sublist.refl _)
      · refine ⟨s5.trans s6, hA6, vs, rs, hV6, dv, ?_⟩
        rw [tk1]
        exact sb.trans (List.sublist_append_left _ _)
    · rintro H5 ⟨s5, hA5, vs, rs, hV, dv, sb⟩
      rw [ul, List.take_length] at sb
      obtain ⟨n9, c9, hsrc⟩ := hA4
      have kp5 := kp_but (K := K) hsrc s5
      have dv5 := da_tk kp5.1 _ _ (tup_rows rs) dv
      walk_at "rd"
      tm_at "tf t2"
      tm_at "al t3"
      have u := Same.trans st2 st3
      have p1 := PlT.same u (kp5.2 _ _ (PlT.same s4 (Go.pltB hA2' s3 ht1)))
      exact q t3 (ns, rs) _ (b4.trans (s5.trans (Bx.Same.but u))) (src_same hA5 u) ⟨t1, t2, vs, sqt ht3, p1, (PlT.same st3 ht2).sq, dpAll_same u dv5⟩ hnm nl3 sb
end
end K21
namespace K21
open Go (tupD tupAll Tk tk_same Tk.trans tk_lst dp_tk da_tk All2)
open PySem PySem.Spec PyProof.Rows L2 Bx TL Dx Zx Ow Sup NdefX Px
local macro_rules | `(tactic| walk_at "rd") => `(tactic| repeat (first | refine ⟨rfl, ?_⟩ | refine ⟨_, rfl, ?_⟩ | refine ⟨_, _, rfl, rfl, ?_⟩ | refine ⟨⟨_, rfl⟩, ?_⟩))
local macro_rules
  | `(tactic| tm_at $s:str) => do
    let id (x : String) := Lean.mkIdent (Lean.Name.mkSimple x)
    match s.getString.splitOn " " with
    | ["rd"] => `(tactic| walk_at "rd")
    | ["sz"] => `(tactic| first | exact sz (by decide) | exact szl (by decide) | exact sz (by show _ ≤ 100000; decide) | ((first | refine sz ?_ | refine szl ?_); (try simp only [List.length_map, List.length_append, List.length_cons, List.length_nil, List.length_take, List.length_drop]); omega) | fail "sz: no bound")
    | ["gn", p, h] => `(tactic| (generalize hu : upd _ $(id p) _ = $(id ("H" ++ p)); obtain ⟨$(id ("s" ++ p)), $(id h)⟩ := Go.al $(id ("n" ++ p)) hu; clear hu))
    | ["al", p] => `(tactic| (refine ⟨by tm_at "sz", fun $(id p) $(id ("n" ++ p)) => ?_⟩; generalize hu : upd _ $(id p) _ = $(id ("H" ++ p)); obtain ⟨$(id ("s" ++ p)), $(id ("h" ++ p))⟩ := Go.al $(id ("n" ++ p)) hu; clear hu; tm_at "rd"))
    | ["al0", p] => `(tactic| (refine ⟨by tm_at "sz", fun $(id p) $(id ("n" ++ p)) => ?_⟩; generalize hu : upd _ $(id p) _ = $(id ("H" ++ p)); obtain ⟨$(id ("s" ++ p)), $(id ("h" ++ p))⟩ := Go.al $(id ("n" ++ p)) hu; clear hu; tm_at "rd"))
    | ["new", p] => `(tactic| (refine fun $(id p) $(id ("n" ++ p)) => ?_; generalize hu : upd _ $(id p) _ = $(id ("H" ++ p)); obtain ⟨$(id ("s" ++ p)), $(id ("h" ++ p))⟩ := Go.al $(id ("n" ++ p)) hu; clear hu; tm_at "rd"))
    | ["new0", p] => `(tactic| (refine fun $(id p) $(id ("n" ++ p)) => ?_; generalize hu : upd _ $(id p) _ = $(id ("H" ++ p)); obtain ⟨$(id ("s" ++ p)), $(id ("h" ++ p))⟩ := Go.al $(id ("n" ++ p)) hu; clear hu; tm_at "rd"))
    | ["up"] => `(tactic| first
        | assumption | exact sq (by assumption) | exact sqt (by assumption) | exact PlT.sq (by assumption)
        | (refine' Bx.Same.tup (by assumption) ?hh; (case hh => tm_at "up")) | (refine' Same.seq (by assumption) ?hh; (case hh => tm_at "up")) | (refine' Go.get (by assumption) ?hh; (case hh => tm_at "up")) | (refine' dpAll_same (by assumption) ?hh; (case hh => tm_at "up")) | (refine' dp_same (by assumption) ?hh; (case hh => tm_at "up")) | (refine' PlT.same (by assumption) ?hh; (case hh => tm_at "up")) | (refine' Go.srcS (by assumption) ?hh; (case hh => tm_at "up"))
        | (refine' Go.tupB (s := _) (by assumption) (by assumption) ?hh; (case hh => tm_at "up")) | (refine' Go.dkB (s := _) (by assumption) (by assumption) ?hh; (case hh => tm_at "up")) | (refine' Go.insB (s := _) (by assumption) (by assumption) ?hh; (case hh => tm_at "up")) | (refine' Go.pltB (s := _) (by assumption) (by assumption) ?hh; (case hh => tm_at "up"))
        | (refine' Go.getB (by assumption) (by first | assumption | exact Ne.symm (by assumption)) ?hh; (case hh => tm_at "up"))
        | (refine' sq ?hh; (case hh => tm_at "raw")) | (refine' sqt ?hh; (case hh => tm_at "raw")) | (refine' PlT.sq ?hh; (case hh => tm_at "raw")) | fail "up: no fact")
    | ["raw"] => `(tactic| first
        | assumption | (refine' Go.get (by assumption) ?hh; (case hh => tm_at "raw")) | (refine' PlT.same (by assumption) ?hh; (case hh => tm_at "raw")) | (refine' Go.pltB (s := _) (by assumption) (by assumption) ?hh; (case hh => tm_at "raw")) | (refine' Go.getB (by assumption) (by first | assumption | exact Ne.symm (by assumption)) ?hh; (case hh => tm_at "raw")) | fail "raw: no fact")
    | ["sq"] => `(tactic| first | exact .inl (by tm_at "up") | exact .inr (by tm_at "up") | fail "sq: no fact")
    | ["ix", j] => `(tactic| (refine ⟨_, _, _, _, rfl, rfl, by tm_at "up", by exact atI_nat (j := $(Lean.Syntax.mkNumLit j)) rfl, ?_⟩; tm_at "rd"))
    | ["ixh", h] => `(tactic| (refine ⟨_, _, _, _, rfl, rfl, by tm_at "up", by first | exact Go.at_mapV $(id h) | exact Go.at_mapZ $(id h) | exact atI_nat $(id h) | exact Go.at_nat0 $(id h), ?_⟩; tm_at "rd"))
    | ["len"] => `(tactic| (refine ⟨_, _, rfl, by tm_at "sq", ?_⟩; (try rw [List.length_map]); tm_at "rd"))
    | ["tp", p] => `(tactic| (refine ⟨_, _, rfl, .inl ⟨by tm_at "up", fun $(id p) $(id ("n" ++ p)) => ?_⟩⟩; generalize hu : upd _ $(id p) _ = $(id ("H" ++ p)); obtain ⟨$(id ("s" ++ p)), $(id ("h" ++ p))⟩ := Go.al $(id ("n" ++ p)) hu; clear hu; tm_at "rd"))
    | ["tp0", p] => `(tactic| (refine ⟨_, _, rfl, .inl ⟨by tm_at "up", fun $(id p) $(id ("n" ++ p)) => ?_⟩⟩; generalize hu : upd _ $(id p) _ = $(id ("H" ++ p)); obtain ⟨$(id ("s" ++ p)), $(id ("h" ++ p))⟩ := Go.al $(id ("n" ++ p)) hu; clear hu; tm_at "rd"))
    | ["ls", p] => `(tactic| (refine ⟨_, _, rfl, by tm_at "sq", fun $(id p) $(id ("n" ++ p)) => ?_⟩; generalize hu : upd _ $(id p) _ = $(id ("H" ++ p)); obtain ⟨$(id ("s" ++ p)), $(id ("h" ++ p))⟩ := Go.al $(id ("n" ++ p)) hu; clear hu; tm_at "rd"))
    | ["ls0", p] => `(tactic| (refine ⟨_, _, rfl, by tm_at "sq", fun $(id p) $(id ("n" ++ p)) => ?_⟩; generalize hu : upd _ $(id p) _ = $(id ("H" ++ p)); obtain ⟨$(id ("s" ++ p)), $(id ("h" ++ p))⟩ := Go.al $(id ("n" ++ p)) hu; clear hu; tm_at "rd"))
    | ["tf", p] => `(tactic| (refine ⟨_, _, rfl, by tm_at "up", fun $(id p) $(id ("o" ++ p)) $(id ("n" ++ p)) $(id ("d" ++ p)) => ?_⟩; generalize hu : upd _ $(id p) _ = $(id ("H" ++ p)); obtain ⟨$(id ("s" ++ p)), $(id ("h" ++ p))⟩ := Go.alF $(id ("n" ++ p)) $(id ("d" ++ p)) hu; clear hu; tm_at "rd"))
    | ["alF", p] => `(tactic| (refine ⟨by tm_at "sz", fun $(id p) $(id ("o" ++ p)) $(id ("n" ++ p)) $(id ("d" ++ p)) => ?_⟩; generalize hu : upd _ $(id p) _ = $(id ("H" ++ p)); obtain ⟨$(id ("s" ++ p)), $(id ("h" ++ p))⟩ := Go.alF $(id ("n" ++ p)) $(id ("d" ++ p)) hu; clear hu; tm_at "rd"))
    | ["bare", k] => `(tactic| (refine fun $(id k) $(id ("d" ++ k)) $(id ("n" ++ k)) $(id ("nd" ++ k)) $(id ("ne" ++ k)) => ?_; generalize hu : upd (upd _ $(id ("d" ++ k)) _) $(id k) _ = $(id ("H" ++ k)); obtain ⟨$(id ("s" ++ k)), $(id ("h" ++ k))⟩ := Go.bare $(id ("n" ++ k)) $(id ("nd" ++ k)) $(id ("ne" ++ k)) hu; clear hu; walk_at "rd"))
    | ["me"] => `(tactic| (refine ⟨_, _, _, rfl, by tm_at "up", rfl, ?_⟩; walk_at "rd"))
    | ["star"] => `(tactic| ((first | refine ⟨_, _, rfl, .inl (by tm_at "up"), ?_⟩ | refine ⟨_, _, rfl, .inr (by tm_at "up"), ?_⟩ | fail "star"); walk_at "rd"))
    | ["ap0"] => `(tactic| (refine ⟨.inl ⟨rfl, _, by tm_at "up"⟩, ?_⟩; tm_at "rd"))
    | ["ap"] => `(tactic| refine ⟨_, _, _, rfl, rfl, by tm_at "up", by tm_at "sz", ?_⟩)
    | ["un", n] => match n with
      | "2" => `(tactic| (refine ⟨_, _, rfl, by tm_at "up", rfl, _, _, rfl, _, _, rfl, rfl, ?_⟩; tm_at "rd"))
      | _ => `(tactic| (refine ⟨_, _, rfl, by tm_at "up", rfl, _, _, rfl, _, _, rfl, _, _, rfl, rfl, ?_⟩; tm_at "rd"))
    | _ => Lean.Macro.throwUnsupported
theorem or_case {t u : TT} {σ : List (Option V)} {H : Hp} {Q : Bool → Hp → Prop} {b1 b2 : Bool} (h1 : ∀ R : Bool → Hp → Prop, R b1 H → t σ H R) (h2 : ∀ R : Bool → Hp → Prop, R b2 H → u σ H R) (q : Q (b1 || b2) H) : tOr t u σ H Q := by
  cases b1 with
  | true => exact h1 _ q
  | false => exact h1 _ (h2 _ q)
theorem and_caseS {t u : TT} {σ : List (Option V)} {H : Hp} {Q : Bool → Hp → Prop} {b1 b2 : Bool} (h1 : ∀ R : Bool → Hp → Prop, (∀ H1, Same H H1 → R b1 H1) → t σ H R) (h2 : ∀ H1, Same H H1 → ∀ R : Bool → Hp → Prop, (∀ H2, Same H1 H2 → R b2 H2) → u σ H1 R) (q : ∀ H2, Same H H2 → Q (b1 && b2) H2) : tAnd t u σ H Q := by
  cases b1 with
  | false => exact h1 _ fun H1 s1 => q H1 s1
  | true => exact h1 _ fun H1 s1 => h2 H1 s1 _ fun H2 s2 => q H2 (s1.trans s2)
theorem eqv_ints : ∀ a b : Row, PyData.eqvAll (a.map PyData.int) (b.map PyData.int) = decide (a = b)
  | [], [] => rfl
  | [], _ :: _ => rfl
  | _ :: _, [] => rfl
  | x :: a, y :: b => by
    show ((x == y) && PyData.eqvAll (a.map PyData.int) (b.map PyData.int)) = _
    rw [eqv_ints a b]
    by_cases h : x = y
    · subst h
      by_cases h2 : a = b
      · subst h2
        simp
      · simp [h2]
    · simp [h]
theorem in_rows (L : List Row) (r : Row) : ((L.map rowD).any fun z => PyData.eqv z (rowD r)) = decide (r ∈ L) := by
  rw [List.any_map]
  induction L with
  | nil => rfl
  | cons s L ih =>
    rw [List.any_cons, ih]
    show (PyData.eqvAll (s.map PyData.int) (r.map PyData.int) || _) = _
    rw [eqv_ints]
    by_cases e : s = r
    · subst e
      simp
    · have e2 : ¬ r = s := fun z => e z.symm
      simp [e, e2]
theorem shape_row (r : Row) : SeqAt.shaped (rowD r) = true := shape (lay_tuple (lays_ints (n := 1))) (by decide)
theorem shape_rows (L : List Row) : SeqAt.shaped (.tuple (L.map rowD)) = true := shape (lay_tuple (lay_rows L)) (by decide)
theorem shape_rowsL (L : List Row) : SeqAt.shaped (.list (L.map rowD)) = true := shape (lay_list (lay_rows L)) (by decide)
/-! ### values of names -/
theorem lk_zip : ∀ {ns : List Str} {r : Row} {z : Str}, r.length = ns.length → z ∈ ns → lk (ns.zip r) z = some (val ns r z)
  | [], _, _, _, h => nomatch h
  | n :: ns, [], _, l, _ => nomatch l
  | n :: ns, x :: r, z, l, h => by
    show ((((n, x) :: ns.zip r).find? fun p => decide (p.1 = z)).map (·.2)) = some ((x :: r).getD ((n :: ns).idxOf z) 0)
    rw [List.find?_cons, List.idxOf_cons]
    by_cases e : n = z
    · rw [decide_eq_true (show (n, x).1 = z from e), beq_iff_eq.mpr e]
      rfl
    · rw [decide_eq_false (show ¬ (n, x).1 = z from e), beq_eq_false_iff_ne.mpr e]
      rcases List.mem_cons.mp h with h | h
      · exact (e h.symm).elim
      · exact lk_zip (Nat.succ.inj l) h
theorem zip_keys : ∀ {ns : List Str} {r : Row}, r.length = ns.length → (ns.zip r).map (·.1) = ns
  | [], [], _ => rfl
  | [], _ :: _, h => nomatch h
  | _ :: _, [], h => nomatch h
  | n :: ns, x :: r, h => congrArg (n :: ·) (zip_keys (Nat.succ.inj h))
theorem put_as {l : As} {z : Str} {v : Int} (h : z ∉ l.map (·.1)) : putK (asV l) (.inr z) (.int v) = asV (l ++ [(z, v)]) := by
  unfold putK
  rw [if_neg]
  · unfold asV
    rw [List.map_append]
    rfl
  · rw [List.any_eq_true]
    rintro ⟨kv, hk, e⟩
    obtain ⟨p, hp, rfl⟩ := List.mem_map.mp hk
    exact h (List.mem_map.mpr ⟨p, hp, Sum.inr.inj (of_decide_eq_true e)⟩)
/-- the values at d of these names -/
def VAt (H : Hp) (d : Addr) (g : Str → Int) (zs : List Str) : Prop := ∃ kvs : List (Key × V), H d = some (.dK kvs) ∧ ∀ z ∈ zs, valV kvs (Sum.inr z) = some (.int (g z))
theorem VAt.same {H H' : Hp} {d : Addr} {g : Str → Int} {zs : List Str} (s : Same H H') : VAt H d g zs → VAt H' d g zs := fun ⟨kvs, h, v⟩ => ⟨kvs, s _ _ h, v⟩
theorem VAt.sub {H : Hp} {d : Addr} {g : Str → Int} {zs ys : List Str} (h : ∀ y ∈ ys, y ∈ zs) : VAt H d g zs → VAt H d g ys := fun ⟨kvs, h1, v⟩ => ⟨kvs, h1, fun z hz => v z (h z hz)⟩
theorem vat_zip {H : Hp} {d : Addr} {ns : List Str} {r : Row} (l : r.length = ns.length) (h : H d = some (.dK (asV (ns.zip r)))) : VAt H d (val ns r) ns := ⟨_, h, fun z hz => by rw [val_as, lk_zip l hz]; rfl⟩
def fitT (g : Str → Int) (t : Tab) : Bool := decide (t.1.map g ∈ t.2)
/-- the tables ts stand at us -/
abbrev TAll (K : PySem.W.Frag) (H : Hp) (us : List V) (ts : List Tab) : Prop := All2 (fun v t => ∃ p, v = .ref p ∧ TabAt K H p t) us ts
theorem TAll.kp {K : PySem.W.Frag} {H H' : Hp} (k : Kp K H H') {us : List V} {ts : List Tab} (h : TAll K H us ts) : TAll K H' us ts := h.mono fun _ _ ⟨p, e, t⟩ => ⟨p, e, t.kp k⟩
theorem TAll.same {H H' : Hp} (k : Same H H') {K : PySem.W.Frag} {us : List V} {ts : List Tab} (h : TAll K H us ts) : TAll K H' us ts := h.kp (kp_same k)
section
variable {P : Program} {w : World} {K : PySem.W.Frag} {mg : Str → Option Value} {base : Heap}
theorem ix_any {H : Hp} {a : Addr} {xs : List V} {i : Int} {v : V} {Z : VK} (h : SqL K H a xs ∨ SqT K H a xs) (e : atI xs i = some v) (q : Z v H) : rIx K (.ref a) (.int i) H Z :=
  h.elim (fun h => .inl ⟨_, _, _, _, rfl, rfl, h, e, q⟩) (fun h => .inr (.inl ⟨_, _, _, _, rfl, rfl, h, e, q⟩))
theorem all2_eq {α : Type} {f : α → V} : ∀ {us : List V} {as : List α}, All2 (fun v a => v = f a) us as → us = as.map f
  | _, _, .nil => rfl
  | _, _, .cons h t => by rw [h, all2_eq t]; rfl
@[irreducible] def spValues (K : PySem.W.Frag) : Sp := fun vs H Q _ => ∃ (a b : Addr) (ns : List Str) (r : Row), vs = [.ref a, .ref b] ∧ (SqL K H a (ns.map V.str) ∨ SqT K H a (ns.map V.str)) ∧ (SqL K H b (r.map V.int) ∨ SqT K H b (r.map V.int)) ∧ r.length = ns.length ∧ ns.Nodup ∧ ns.length ≤ 20 ∧ ∀ d H', Same H H' → H d = none → H' d = some (.dK (asV (ns.zip r))) → Q (.ref d) H'
set_option maxHeartbeats 1000000 in
theorem ok_values {f : Addr} {fd : FuncData} (F : Fun K "_law_values" "_law_values" s__law_values f fd) (m_range : mg "range" = none) (m_len : mg "len" = none) : FnOk P w K mg base CX0 1 f fd ["_law_names", "_law_row"] (spValues K) := by
  refine F.ok sc__law_values (fun vs H Q E h => ?_) (fun cdv A outer s H vs Q E hr h => ?_)
  · unfold spValues at h
    obtain ⟨a, b, ns, r, rfl, _⟩ := h
    rfl
  · unfold spValues at h
    obtain ⟨a, b, ns, r, rfl, ha, hb, rl, nd, nl, q⟩ := h
    have hu := hu_of hr
    refine ⟨_, (pss_cons (ps_set (i := 2) sc__law_values.nd rfl (Or.inl rfl) pe_dnewK)
    (pss_cons (ps_for PassesOwn.never rfl (pi_range1 (by rfl) m_range (pa_cons (pe_callB call_len_seq (by rfl) m_len PySem.boot_len (pa_cons (pv 0) pa_nil)) pa_nil)) (pg_name (i := 3) sc__law_values.nd rfl (Or.inl rfl))
      (pss_one (ps_dput hu (pv 2) (pe_ix ix_seq (pv 0) (pv 3) (fun _ _ => rfl)) (pe_ix ix_seq (pv 1) (pv 3) (fun _ _ => rfl)) rfl)))
    (pss_one (ps_ret (pv 2))))), ?_⟩
    walk_at "rd"
    refine fun m nm0 => ?_
    have um := same_new nm0 (o := .dK [])
    have hm0 := upd_same (H := H) (a := m) (o := .dK [])
    generalize upd H m (.dK []) = H1 at um hm0 ⊢
    have keepA : ∀ H', Same H H' → SqL K H' a (ns.map V.str) ∨ SqT K H' a (ns.map V.str) := fun H' s => ha.imp (Same.seq s) (Bx.Same.tup s)
    have keepB : ∀ H', Same H H' → SqL K H' b (r.map V.int) ∨ SqT K H' b (r.map V.int) := fun H' s => hb.imp (Same.seq s) (Bx.Same.tup s)
    walk_at "rd"
    refine ⟨_, _, rfl, keepA _ um, ?_⟩
    rw [List.length_map]
    walk_at "rd"
    refine ⟨by omega, by omega, for_it walk_range (fun i σ H' => ∃ o3 : Option V, σ = [some (.ref a), some (.ref b), some (.ref m), o3] ∧ Same H H' ∧ H' m = some (.dK (asV ((ns.take i).zip (r.take i))))) ⟨none, rfl, um, hm0⟩ (fun _ _ _ _ _ => trivial) ?_ ?_⟩
    · rintro i x σ H2a H2 hi ⟨o3, rfl, s2, hm⟩ ⟨rfl, rfl⟩
      have hi' : i < ns.length := by omega
      have e1 := List.getElem?_eq_getElem hi'
      have e2 := List.getElem?_eq_getElem (show i < r.length by omega)
      generalize ns[i] = z at e1
      generalize r[i]'(by omega) = v at e2
      walk_at "rd"
      refine ix_any (keepB _ s2) (Go.at_mapZ e2) ?_
      walk_at "rd"
      refine ix_any (keepA _ s2) (Go.at_mapZ e1) ?_
      have zl : (ns.take i).length = (r.take i).length := by rw [List.length_take, List.length_take, rl]
      have nz : z ∉ ((ns.take i).zip (r.take i)).map (·.1) := by
        rw [zip_keys zl.symm]
        exact Go.nd_take nd e1
      refine ⟨m, _, rfl, DPut.k (k := .inr z) (v := .int v) hm (szl (by unfold asV; rw [List.length_map, List.length_zip, List.length_take]; omega)), ?_⟩
      rw [put_as nz]
      refine ⟨_, rfl, same_at nm0 s2, ?_⟩
      rw [upd_same, List.take_add_one, List.take_add_one, e1, e2, List.zip_append zl]
      rfl
    · rintro σ H2 ⟨o3, rfl, s2, hm⟩
      walk_at "rd"
      rw [show ((ns.length : Nat) : Int).toNat = ns.length by omega, List.take_length, ← rl, List.take_length] at hm
      exact q m H2 s2 nm0 hm
end
end K21
namespace K21
open Go (tupD tupAll)
open PySem PySem.Spec PyProof.Rows L2 Bx TL Dx Zx
/-! ### what is decided, as a function -/
abbrev G := Str → Option Int
def okG (ns : List Str) (g : G) (r : Row) : Bool := ns.all fun z => match g z with | none => true | some v => decide (val ns r z = v)
def canG (t : Tab) (g : G) : Bool := t.2.any (okG t.1 g)
def shownG (q : Tab) (g : G) : Bool := q.1.all (fun z => (g z).isSome) && decide (q.1.map (fun z => (g z).getD 0) ∈ q.2)
def setG (g : G) (s : Str) (v : Int) : G := fun z => if z = s then some v else g z
theorem okR_G (ns : List Str) (l : As) : okR ns l = okG ns (lk l) := by
  funext r
  unfold okR wants okG
  rw [List.map_map, List.all_map, List.all_filter]
  congr 1
  funext z
  cases e : lk l z with
  | none => rfl
  | some v =>
    simp only [Function.comp_apply, e]
    rw [show (!(some v).isSome) = false from rfl, Bool.false_or]
    show decide (V.int (r.getD (ns.idxOf z) 0) = V.int v) = decide (r.getD (ns.idxOf z) 0 = v)
    rw [decide_eq_decide]
    exact ⟨fun h => V.int.inj h, fun h => by rw [h]⟩
theorem lk_none {l : As} {s : Str} : lk l s = none ↔ s ∉ l.map (·.1) := by
  unfold lk
  rw [Option.map_eq_none_iff, List.find?_eq_none, List.mem_map]
  constructor
  · rintro h ⟨p, hp, e⟩
    exact h p hp (decide_eq_true e)
  · intro h p hp e
    exact h ⟨p, hp, of_decide_eq_true e⟩
theorem lk_cons (l : As) (s : Str) (v : Int) : lk ((s, v) :: l) = setG (lk l) s v := by
  funext z
  unfold lk setG
  rw [List.find?_cons]
  by_cases e : z = s
  · subst e
    rw [if_pos rfl, decide_eq_true (show (z, v).1 = z from rfl)]
    rfl
  · rw [if_neg e, decide_eq_false (show ¬ (s, v).1 = z from fun h => e h.symm)]
theorem lk_snoc {l : As} {s : Str} (h : s ∉ l.map (·.1)) (v : Int) : lk (l ++ [(s, v)]) = setG (lk l) s v := by
  funext z
  unfold setG
  by_cases e : z = s
  · subst e
    rw [if_pos rfl]
    have n := lk_none.mpr h
    unfold lk at n ⊢
    rw [List.find?_append, Option.map_eq_none_iff.mp n, List.find?_cons, decide_eq_true (show (z, v).1 = z from rfl)]
    rfl
  · rw [if_neg e]
    unfold lk
    rw [List.find?_append, List.find?_cons, decide_eq_false (show ¬ (s, v).1 = z from fun h => e h.symm)]
    cases (l.find? fun p => decide (p.1 = z)) <;> rfl
/-! ### trees -/
inductive Tr : Type where
  | leaf : Int → Tr
  | node : Str → Tr → Tr → Tr → Tr
def dep : Tr → Nat
  | .leaf _ => 0
  | .node _ a b c => 1 + max (dep a) (max (dep b) (dep c))
def trD : Tr → PyData
  | .leaf i => .int i
  | .node s a b c => .tuple [.str s, trD a, trD b, trD c]
theorem tup_tr : ∀ t : Tr, tupD (trD t) = true
  | .leaf _ => rfl
  | .node s a b c => by
    show (tupD (.str s) && (tupD (trD a) && (tupD (trD b) && (tupD (trD c) && true)))) = true
    rw [tup_tr a, tup_tr b, tup_tr c]
    rfl
def Rt (ns : List Str) (ts : List Tab) (q : Tab) : Tr → G → Bool
  | .leaf i, g => if i = -1 then shownG q g else decide (0 ≤ i) && decide (i < (ts.length : Nat)) && !canG (ts.getD i.toNat ([], [])) g
  | .node s a b c, g => decide (s ∈ ns) && (g s).isNone && (Rt ns ts q a (setG g s 0) && (Rt ns ts q b (setG g s 1) && Rt ns ts q c (setG g s 2)))
theorem rt_sound {ns : List Str} {ts : List Tab} {q : Tab} (nd : ns.Nodup) {r : Row} (hr : r ∈ rowsN ns.length) (fit : ts.all (fitT (val ns r)) = true) :
    ∀ (tr : Tr) (g : G), (∀ z v, g z = some v → v = val ns r z) → Rt ns ts q tr g = true → fitT (val ns r) q = true
  | .leaf i, g, ag, h => by
    unfold Rt at h
    by_cases e : i = -1
    · rw [if_pos e] at h
      unfold shownG at h
      obtain ⟨h1, h2⟩ := Bool.and_eq_true_iff.mp h
      have h3 := of_decide_eq_true h2
      have em : (q.1.map fun z => (g z).getD 0) = q.1.map (val ns r) := List.map_congr_left fun z hz => by
        have z1 := List.all_eq_true.mp h1 z hz
        obtain ⟨v, ev⟩ := Option.isSome_iff_exists.mp z1
        rw [ev]
        exact ag z v ev
      rw [em] at h3
      exact decide_eq_true h3
    · rw [if_neg e] at h
      obtain ⟨h1, h2⟩ := Bool.and_eq_true_iff.mp h
      obtain ⟨h0, h1⟩ := Bool.and_eq_true_iff.mp h1
      have i0 := of_decide_eq_true h0
      have i1 := of_decide_eq_true h1
      have lt : i.toNat < ts.length := by omega
      rw [List.getD_eq_getElem?_getD, List.getElem?_eq_getElem lt] at h2
      have ft := List.all_eq_true.mp fit _ (List.getElem_mem lt)
      have ft2 := of_decide_eq_true ft
      exfalso
      have : canG ts[i.toNat] g = true := by
        unfold canG
        refine List.any_eq_true.mpr ⟨_, ft2, ?_⟩
        unfold okG
        refine List.all_eq_true.mpr fun z hz => ?_
        cases e : g z with
        | none => rfl
        | some v => exact decide_eq_true (by rw [val_map hz]; exact (ag z v e).symm)
      rw [show (some ts[i.toNat]).getD (([] : List Str), ([] : List Row)) = ts[i.toNat] from rfl, this] at h2
      cases h2
  | .node s a b c, g, ag, h => by
    unfold Rt at h
    obtain ⟨_, h2⟩ := Bool.and_eq_true_iff.mp h
    obtain ⟨ha, h2⟩ := Bool.and_eq_true_iff.mp h2
    obtain ⟨hb, hc⟩ := Bool.and_eq_true_iff.mp h2
    have up : ∀ k : Int, val ns r s = k → ∀ z v, setG g s k z = some v → v = val ns r z := fun k ek z v e => by
      unfold setG at e
      by_cases ez : z = s
      · rw [if_pos ez] at e
        cases e
        rw [ez, ek]
      · rw [if_neg ez] at e
        exact ag z v e
    rcases val_dig hr s with e | e | e
    · exact rt_sound nd hr fit a _ (up 0 e) ha
    · exact rt_sound nd hr fit b _ (up 1 e) hb
    · exact rt_sound nd hr fit c _ (up 2 e) hc
/-! ### tables cut down to what is decided -/
def cutT (g : G) (t : Tab) : Tab := (t.1, t.2.filter (okG t.1 g))
theorem cut_ok {t : Tab} (g : G) (h : TOk t) : TOk (cutT g t) := ⟨h.nd, List.Sublist.trans List.filter_sublist h.rows⟩
theorem cut_none {t : Tab} (g : G) (h : ∀ z ∈ t.1, g z = none) : cutT g t = t := by
  unfold cutT
  rw [List.filter_eq_self.mpr fun r _ => by
    unfold okG
    refine List.all_eq_true.mpr fun z hz => ?_
    rw [h z hz]]
theorem cut_set {t : Tab} {g : G} {s : Str} {v : Int} (h : g s = none) : cutT (setG (fun _ => none) s v) (cutT g t) = cutT (setG g s v) t := by
  unfold cutT
  dsimp only
  rw [List.filter_filter]
  congr 2
  funext r
  unfold okG
  rw [Bool.eq_iff_iff, Bool.and_eq_true_iff, List.all_eq_true, List.all_eq_true, List.all_eq_true]
  constructor
  · rintro ⟨h1, h2⟩ z hz
    have a := h1 z hz
    have b := h2 z hz
    unfold setG at a ⊢
    by_cases e : z = s
    · rw [if_pos e] at a ⊢
      exact a
    · rw [if_neg e]
      exact b
  · intro h1
    refine ⟨fun z hz => ?_, fun z hz => ?_⟩
    · have a := h1 z hz
      unfold setG at a ⊢
      by_cases e : z = s
      · rw [if_pos e] at a ⊢
        exact a
      · rw [if_neg e]
    · have a := h1 z hz
      unfold setG at a
      by_cases e : z = s
      · subst e
        rw [h]
      · rw [if_neg e] at a
        exact a
theorem cut_off {t : Tab} {g : G} {s : Str} {v : Int} (h : s ∉ t.1) : cutT g t = cutT (setG g s v) t := by
  unfold cutT
  congr 2
  funext r
  unfold okG
  rw [Bool.eq_iff_iff, List.all_eq_true, List.all_eq_true]
  have k : ∀ z ∈ t.1, setG g s v z = g z := fun z hz => if_neg fun (e : z = s) => h (e ▸ hz)
  exact ⟨fun a z hz => by rw [k z hz]; exact a z hz, fun a z hz => by have := a z hz; rw [k z hz] at this; exact this⟩
theorem cut_can {t : Tab} {g : G} (h : (cutT g t).2 = []) : canG t g = false := by
  unfold canG
  rw [List.any_eq_false]
  exact List.filter_eq_nil_iff.mp h
/-- all is decided, and no table is empty: it fits -/
theorem cut_fit {t : Tab} {g : G} (ht : TOk t) (all : ∀ z ∈ t.1, (g z).isSome = true) (h : (cutT g t).2 ≠ []) : fitT (fun z => (g z).getD 0) t = true := by
  obtain ⟨r, hr⟩ := List.exists_mem_of_ne_nil _ h
  obtain ⟨h1, h2⟩ := List.mem_filter.mp hr
  have e : t.1.map (fun z => (g z).getD 0) = r := by
    rw [← pk_self ht.nd (ht.len h1)]
    refine List.map_congr_left fun z hz => ?_
    have a := List.all_eq_true.mp h2 z hz
    obtain ⟨v, ev⟩ := Option.isSome_iff_exists.mp (all z hz)
    rw [ev] at a ⊢
    exact (of_decide_eq_true a).symm
  unfold fitT
  rw [e]
  exact decide_eq_true h1
theorem shown_fit {q : Tab} {g : G} (all : ∀ z ∈ q.1, (g z).isSome = true) : shownG q g = fitT (fun z => (g z).getD 0) q := by
  unfold shownG fitT
  rw [List.all_eq_true.mpr all, Bool.true_and]
theorem as_len {ns : List Str} {l : As} (nd : ns.Nodup) (ld : (l.map (·.1)).Nodup) (m : ∀ z, z ∈ l.map (·.1) ↔ z ∈ ns) : l.length = ns.length := by
  have := ((List.perm_ext_iff_of_nodup ld nd).mpr m).length_eq
  rwa [List.length_map] at this
end K21
namespace K21
open Go (tupD tupAll Tk tk_same Tk.trans tk_lst dp_tk da_tk All2)
open PySem PySem.Spec PyProof.Rows L2 Bx TL Dx Zx Ow Sup NdefX Px
local macro_rules | `(tactic| walk_at "rd") => `(tactic| repeat (first | refine ⟨rfl, ?_⟩ | refine ⟨_, rfl, ?_⟩ | refine ⟨_, _, rfl, rfl, ?_⟩ | refine ⟨⟨_, rfl⟩, ?_⟩))
local macro_rules
  | `(tactic| tm_at $s:str) => do
    let id (x : String) := Lean.mkIdent (Lean.Name.mkSimple x)
    match s.getString.splitOn " " with
    | ["rd"] => `(tactic| walk_at "rd")
    | ["sz"] => `(tactic| first | exact sz (by decide) | exact szl (by decide) | exact sz (by show _ ≤ 100000; decide) | ((first | refine sz ?_ | refine szl ?_); (try simp only [List.length_map, List.length_append, List.length_cons, List.length_nil, List.length_take, List.length_drop]); omega) | fail "sz: no bound")
    | ["gn", p, h] => `(tactic| (generalize hu : upd _ $(id p) _ = $(id ("H" ++ p)); obtain ⟨$(id ("s" ++ p)), $(id h)⟩ := Go.al $(id ("n" ++ p)) hu; clear hu))
    | ["al", p] => `(tactic| (refine ⟨by tm_at "sz", fun $(id p) $(id ("n" ++ p)) => ?_⟩; generalize hu : upd _ $(id p) _ = $(id ("H" ++ p)); obtain ⟨$(id ("s" ++ p)), $(id ("h" ++ p))⟩ := Go.al $(id ("n" ++ p)) hu; clear hu; tm_at "rd"))
    | ["al0", p] => `(tactic| (refine ⟨by tm_at "sz", fun $(id p) $(id ("n" ++ p)) => ?_⟩; generalize hu : upd _ $(id p) _ = $(id ("H" ++ p)); obtain ⟨$(id ("s" ++ p)), $(id ("h" ++ p))⟩ := Go.al $(id ("n" ++ p)) hu; clear hu; tm_at "rd"))
    | ["new", p] => `(tactic| (refine fun $(id p) $(id ("n" ++ p)) => ?_; generalize hu : upd _ $(id p) _ = $(id ("H" ++ p)); obtain ⟨$(id ("s" ++ p)), $(id ("h" ++ p))⟩ := Go.al $(id ("n" ++ p)) hu; clear hu; tm_at "rd"))
    | ["new0", p] => `(tactic| (refine fun $(id p) $(id ("n" ++ p)) => ?_; generalize hu : upd _ $(id p) _ = $(id ("H" ++ p)); obtain ⟨$(id ("s" ++ p)), $(id ("h" ++ p))⟩ := Go.al $(id ("n" ++ p)) hu; clear hu; tm_at "rd"))
    | ["up"] => `(tactic| first
        | assumption | exact sq (by assumption) | exact sqt (by assumption) | exact PlT.sq (by assumption)
        | (refine' Bx.Same.tup (by assumption) ?hh; (case hh => tm_at "up")) | (refine' Same.seq (by assumption) ?hh; (case hh => tm_at "up")) | (refine' Go.get (by assumption) ?hh; (case hh => tm_at "up")) | (refine' dpAll_same (by assumption) ?hh; (case hh => tm_at "up")) | (refine' dp_same (by assumption) ?hh; (case hh => tm_at "up")) | (refine' PlT.same (by assumption) ?hh; (case hh => tm_at "up")) | (refine' Go.srcS (by assumption) ?hh; (case hh => tm_at "up"))
        | (refine' Go.tupB (s := _) (by assumption) (by assumption) ?hh; (case hh => tm_at "up")) | (refine' Go.dkB (s := _) (by assumption) (by assumption) ?hh; (case hh => tm_at "up")) | (refine' Go.insB (s := _) (by assumption) (by assumption) ?hh; (case hh => tm_at "up")) | (refine' Go.pltB (s := _) (by assumption) (by assumption) ?hh; (case hh => tm_at "up"))
        | (refine' Go.getB (by assumption) (by first | assumption | exact Ne.symm (by assumption)) ?hh; (case hh => tm_at "up"))
        | (refine' sq ?hh; (case hh => tm_at "raw")) | (refine' sqt ?hh; (case hh => tm_at "raw")) | (refine' PlT.sq ?hh; (case hh => tm_at "raw")) | fail "up: no fact")
    | ["raw"] => `(tactic| first
        | assumption | (refine' Go.get (by assumption) ?hh; (case hh => tm_at "raw")) | (refine' PlT.same (by assumption) ?hh; (case hh => tm_at "raw")) | (refine' Go.pltB (s := _) (by assumption) (by assumption) ?hh; (case hh => tm_at "raw")) | (refine' Go.getB (by assumption) (by first | assumption | exact Ne.symm (by assumption)) ?hh; (case hh => tm_at "raw")) | fail "raw: no fact")
    | ["sq"] => `(tactic| first | exact .inl (by tm_at "up") | exact .inr (by tm_at "up") | fail "sq: no fact")
    | ["ix", j] => `(tactic| (refine ⟨_, _, _, _, rfl, rfl, by tm_at "up", by exact atI_nat (j := $(Lean.Syntax.mkNumLit j)) rfl, ?_⟩; tm_at "rd"))
    | ["ixh", h] => `(tactic| (refine ⟨_, _, _, _, rfl, rfl, by tm_at "up", by first | exact Go.at_mapV $(id h) | exact Go.at_mapZ $(id h) | exact atI_nat $(id h) | exact Go.at_nat0 $(id h), ?_⟩; tm_at "rd"))
    | ["len"] => `(tactic| (refine ⟨_, _, rfl, by tm_at "sq", ?_⟩; (try rw [List.length_map]); tm_at "rd"))
    | ["tp", p] => `(tactic| (refine ⟨_, _, rfl, .inl ⟨by tm_at "up", fun $(id p) $(id ("n" ++ p)) => ?_⟩⟩; generalize hu : upd _ $(id p) _ = $(id ("H" ++ p)); obtain ⟨$(id ("s" ++ p)), $(id ("h" ++ p))⟩ := Go.al $(id ("n" ++ p)) hu; clear hu; tm_at "rd"))
    | ["tp0", p] => `(tactic| (refine ⟨_, _, rfl, .inl ⟨by tm_at "up", fun $(id p) $(id ("n" ++ p)) => ?_⟩⟩; generalize hu : upd _ $(id p) _ = $(id ("H" ++ p)); obtain ⟨$(id ("s" ++ p)), $(id ("h" ++ p))⟩ := Go.al $(id ("n" ++ p)) hu; clear hu; tm_at "rd"))
    | ["ls", p] => `(tactic| (refine ⟨_, _, rfl, by tm_at "sq", fun $(id p) $(id ("n" ++ p)) => ?_⟩; generalize hu : upd _ $(id p) _ = $(id ("H" ++ p)); obtain ⟨$(id ("s" ++ p)), $(id ("h" ++ p))⟩ := Go.al $(id ("n" ++ p)) hu; clear hu; tm_at "rd"))
    | ["ls0", p] => `(tactic| (refine ⟨_, _, rfl, by tm_at "sq", fun $(id p) $(id ("n" ++ p)) => ?_⟩; generalize hu : upd _ $(id p) _ = $(id ("H" ++ p)); obtain ⟨$(id ("s" ++ p)), $(id ("h" ++ p))⟩ := Go.al $(id ("n" ++ p)) hu; clear hu; tm_at "rd"))
    | ["tf", p] => `(tactic| (refine ⟨_, _, rfl, by tm_at "up", fun $(id p) $(id ("o" ++ p)) $(id ("n" ++ p)) $(id ("d" ++ p)) => ?_⟩; generalize hu : upd _ $(id p) _ = $(id ("H" ++ p)); obtain ⟨$(id ("s" ++ p)), $(id ("h" ++ p))⟩ := Go.alF $(id ("n" ++ p)) $(id ("d" ++ p)) hu; clear hu; tm_at "rd"))
    | ["alF", p] => `(tactic| (refine ⟨by tm_at "sz", fun $(id p) $(id ("o" ++ p)) $(id ("n" ++ p)) $(id ("d" ++ p)) => ?_⟩; generalize hu : upd _ $(id p) _ = $(id ("H" ++ p)); obtain ⟨$(id ("s" ++ p)), $(id ("h" ++ p))⟩ := Go.alF $(id ("n" ++ p)) $(id ("d" ++ p)) hu; clear hu; tm_at "rd"))
    | ["bare", k] => `(tactic| (refine fun $(id k) $(id ("d" ++ k)) $(id ("n" ++ k)) $(id ("nd" ++ k)) $(id ("ne" ++ k)) => ?_; generalize hu : upd (upd _ $(id ("d" ++ k)) _) $(id k) _ = $(id ("H" ++ k)); obtain ⟨$(id ("s" ++ k)), $(id ("h" ++ k))⟩ := Go.bare $(id ("n" ++ k)) $(id ("nd" ++ k)) $(id ("ne" ++ k)) hu; clear hu; walk_at "rd"))
    | ["me"] => `(tactic| (refine ⟨_, _, _, rfl, by tm_at "up", rfl, ?_⟩; walk_at "rd"))
    | ["star"] => `(tactic| ((first | refine ⟨_, _, rfl, .inl (by tm_at "up"), ?_⟩ | refine ⟨_, _, rfl, .inr (by tm_at "up"), ?_⟩ | fail "star"); walk_at "rd"))
    | ["ap0"] => `(tactic| (refine ⟨.inl ⟨rfl, _, by tm_at "up"⟩, ?_⟩; tm_at "rd"))
    | ["ap"] => `(tactic| refine ⟨_, _, _, rfl, rfl, by tm_at "up", by tm_at "sz", ?_⟩)
    | ["un", n] => match n with
      | "2" => `(tactic| (refine ⟨_, _, rfl, by tm_at "up", rfl, _, _, rfl, _, _, rfl, rfl, ?_⟩; tm_at "rd"))
      | _ => `(tactic| (refine ⟨_, _, rfl, by tm_at "up", rfl, _, _, rfl, _, _, rfl, _, _, rfl, rfl, ?_⟩; tm_at "rd"))
    | _ => Lean.Macro.throwUnsupported
section
variable {P : Program} {w : World} {K : PySem.W.Frag} {mg : Str → Option Value} {base : Heap}
@[irreducible] def spShown (K : PySem.W.Frag) : Sp := fun vs H Q _ => ∃ (p d : Addr) (q : Tab) (l : As), vs = [.ref p, .ref d] ∧ TabAt K H p q ∧ q.1.length ≤ 20 ∧ H d = some (.dK (asV l)) ∧ ∀ H', Same H H' → Q (.bl (shownG q (lk l))) H'
set_option maxHeartbeats 1000000 in
theorem ok_shown {f : Addr} {fd : FuncData} (F : Fun K "_is_shown" "_is_shown" s__is_shown f fd) (m_all : mg "all" = none) (m_tuple : mg "tuple" = none) : FnOk P w K mg base CX0 1 f fd ["constraint", "decided"] (spShown K) := by
  refine F.ok sc__is_shown (fun vs H Q E h => ?_) (fun cdv A outer s H vs Q E hr h => ?_)
  · unfold spShown at h
    obtain ⟨p, d, q, l, rfl, _⟩ := h
    rfl
  · unfold spShown at h
    obtain ⟨p, d, q, l, rfl, hp, ql, hd, q0⟩ := h
    have hu := hu_of hr
    obtain ⟨a1, b1, us1, t1, t2, t3, t4⟩ := hp
    refine ⟨_, (pss_cons (ps_asg (pv 0) (pg_tup rfl (pgs_cons (pg_name (i := 2) sc__is_shown.nd rfl (Or.inl rfl)) (pgs_cons (pg_name (i := 3) sc__is_shown.nd rfl (Or.inl rfl)) pgs_nil))))
    (pss_one (ps_ret (pe_and (pe_callB (id := "all") (cr_all rfl) (by rfl) m_all (by decide +kernel) (pa_cons (pe_lc (own := [("name", 4)]) (tt := tYes) rfl sc__is_shown.nd (pi_tup (pv 2)) (blkOk_by (N := n__is_shown) (sc := defScope s__is_shown) (by decide +kernel)) (fun _ _ _ _ _ => pg_name (i := 4) sc__is_shown.nd rfl (Or.inl rfl)) (fun _ _ _ _ _ => pts_nil) (fun _ _ _ _ _ => (pe_cmp (pc_din hu (pv 4) (pv 1))))) pa_nil)) (pe_one (pe_cmpR (Sl.op_inT (K := K) rfl (room hr)) (pe_callTy (T := "tuple") call_tuple_of (by rfl) m_tuple (by decide +kernel) (pa_cons (pe_lc (own := [("name", 4)]) (tt := tYes) rfl sc__is_shown.nd (pi_tup (pv 2)) (blkOk_by (N := n__is_shown) (sc := defScope s__is_shown) (by decide +kernel)) (fun _ _ _ _ _ => pg_name (i := 4) sc__is_shown.nd rfl (Or.inl rfl)) (fun _ _ _ _ _ => pts_nil) (fun _ _ _ _ _ => (pe_dget hu (pv 1) (pv 4) (fun _ _ => rfl)))) pa_nil)) (pv 3) (by rfl))))))), ?_⟩
    walk_at "rd"
    tm_at "un 2"
    refine ⟨⟨_, t2.sq⟩, fun D nD => ?_⟩
    refine Go.lc_rel walk_tup q.1 (fun _ => true) (fun H v z => v = .bl (lk l z).isSome) (by rw [List.length_map]) (by rw [List.length_map]; omega) nD (fun _ _ _ _ _ h => h) (fun _ _ _ _ _ _ h => h) (fun H' s => (PlT.same s t2).sq) Go.yat ?_ ?_
    · rintro j z y H2a H2 hz s2 ⟨rfl, hy⟩ Z Z' hZ _
      rw [List.getElem?_map, hz] at hy
      cases hy
      refine ⟨rfl, ?_⟩
      walk_at "rd"
      refine ⟨_, _, rfl, DGet.k (k := .inr z) (s2 _ _ hd), ?_⟩
      rw [val_as, Option.isSome_map]
      exact hZ _ _ rfl (Same.refl _) rfl
    · rintro H2 ws s2 hW hws
      rw [List.filter_eq_self.mpr fun _ _ => rfl] at hws
      have ew : ws = (q.1.map fun z => (lk l z).isSome).map V.bl := by
        rw [List.map_map]
        exact Go.all2_eq hws
      subst ew
      walk_at "rd"
      refine ⟨D, _, rfl, sq hW, ?_⟩
      have eS : ((q.1.map fun z => (lk l z).isSome).all id) = q.1.all fun z => (lk l z).isSome := by rw [List.all_map]; rfl
      rw [eS]
      by_cases c : (q.1.all fun z => (lk l z).isSome) = true
      · rw [c]
        refine ⟨_, rfl, ?_⟩
        rw [if_pos rfl]
        walk_at "rd"
        have c2 := List.all_eq_true.mp c
        refine ⟨⟨_, (PlT.same s2 t2).sq⟩, fun D2 nD2 => ?_⟩
        refine Go.lc_rel walk_tup q.1 (fun _ => true) (fun H v z => v = .int ((lk l z).getD 0)) (by rw [List.length_map]) (by rw [List.length_map]; omega) nD2 (fun _ _ _ _ _ h => h) (fun _ _ _ _ _ _ h => h) (fun H' s => (PlT.same (s2.trans s) t2).sq) Go.yat ?_ ?_
        · rintro j z y H3a H3 hz s3 ⟨rfl, hy⟩ Z Z' hZ _
          rw [List.getElem?_map, hz] at hy
          cases hy
          refine ⟨rfl, ?_⟩
          walk_at "rd"
          refine ⟨d, .int ((lk l z).getD 0), rfl, ?_, ?_⟩
          · have g := DGet.k (k := .inr z) (s3 _ _ (s2 _ _ hd))
            rw [val_as] at g
            obtain ⟨v, ev⟩ := Option.isSome_iff_exists.mp (c2 z (List.mem_of_getElem? hz))
            rw [ev] at g ⊢
            exact g
          · exact hZ _ _ rfl (Same.refl _) rfl
        · rintro H3 ws s3 hW3 hws
          rw [List.filter_eq_self.mpr fun _ _ => rfl] at hws
          have ew : ws = (q.1.map fun z => (lk l z).getD 0).map V.int := by
            rw [List.map_map]
            exact Go.all2_eq hws
          subst ew
          walk_at "rd"
          tm_at "tp e"
          have s1e := s2.trans (s3.trans se)
          refine ⟨rowD (q.1.map fun z => (lk l z).getD 0), q.2.map rowD, dp_row (sqt he), .tup (Bx.Same.tup s1e t3) (dpAll_same s1e t4), shape_row _, shape_rows _, ?_⟩
          rw [in_rows]
          have z := q0 _ s1e
          unfold shownG at z
          rw [c, Bool.true_and] at z
          exact z
      · have c0 := Bool.eq_false_iff.mpr c
        rw [c0]
        refine ⟨_, rfl, ?_⟩
        rw [if_neg (by decide)]
        have z := q0 _ s2
        unfold shownG at z
        rw [c0, Bool.false_and] at z
        exact z
@[irreducible] def spFits (K : PySem.W.Frag) : Sp := fun vs H Q _ => ∃ (a d : Addr) (t : Tab) (g : Str → Int) (zs : List Str), vs = [.ref a, .ref d] ∧ TabAt K H a t ∧ VAt H d g zs ∧ (t.1.length ≤ 20 ∧ ∀ z ∈ t.1, z ∈ zs) ∧ ∀ H', Same H H' → Q (.bl (fitT g t)) H'
set_option maxHeartbeats 1000000 in
theorem ok_fits {f : Addr} {fd : FuncData} (F : Fun K "_law_fits" "_law_fits" s__law_fits f fd) (m_tuple : mg "tuple" = none) : FnOk P w K mg base CX0 1 f fd ["_law_table_here", "_law_values_here"] (spFits K) := by
  refine F.ok sc__law_fits (fun vs H Q E h => ?_) (fun cdv A outer s H vs Q E hr h => ?_)
  · unfold spFits at h
    obtain ⟨a, d, t, g, zs, rfl, _⟩ := h
    rfl
  · unfold spFits at h
    obtain ⟨a, d, t, g, zs, rfl, hp, hv, ⟨tl, tz⟩, q⟩ := h
    have hu := hu_of hr
    refine ⟨_, (pss_one (ps_ret (pe_cmpR (Sl.op_inT (K := K) rfl (room hr)) (pe_callTy (T := "tuple") call_tuple_of (by rfl) m_tuple (by decide +kernel) (pa_cons (pe_lc (own := [("_law_name", 2)]) (tt := tYes) rfl sc__law_fits.nd (pi_tup (pe_ix ix_tup (pv 0) pe_int (fun _ _ => rfl))) (blkOk_by (N := n__law_fits) (sc := defScope s__law_fits) (by decide +kernel)) (fun _ _ _ _ _ => pg_name (i := 2) sc__law_fits.nd rfl (Or.inl rfl)) (fun _ _ _ _ _ => pts_nil) (fun _ _ _ _ _ => (pe_dget hu (pv 1) (pv 2) (fun _ _ => rfl)))) pa_nil)) (pe_ix ix_tup (pv 0) pe_int (fun _ _ => rfl)) (by rfl)))), ?_⟩
    obtain ⟨a1, b1, us1, t1, t2, t3, t4⟩ := hp
    walk_at "rd"
    tm_at "ix 0"
    refine ⟨⟨_, t2.sq⟩, fun D nD => ?_⟩
    refine Go.lc_rel walk_tup t.1 (fun _ => true) (fun H v z => v = .int (g z)) (by rw [List.length_map]) (by rw [List.length_map]; omega) nD (fun _ _ _ _ _ h => h) (fun _ _ _ _ _ _ h => h) (fun H' s => (PlT.same s t2).sq) Go.yat ?_ ?_
    · rintro j z y H2a H2 hz s2 ⟨rfl, hy⟩ Z Z' hZ _
      rw [List.getElem?_map, hz] at hy
      cases hy
      obtain ⟨kvs, hd, val⟩ := id hv
      refine ⟨rfl, ?_⟩
      walk_at "rd"
      refine ⟨d, .int (g z), rfl, by rw [← val z (tz z (List.mem_of_getElem? hz))]; exact DGet.k (k := .inr z) (s2 _ _ hd), ?_⟩
      exact hZ _ _ rfl (Same.refl _) rfl
    · rintro H2 ws s2 hW hws
      rw [List.filter_eq_self.mpr fun _ _ => rfl] at hws
      have ew : ws = (t.1.map g).map V.int := by
        rw [List.map_map]
        exact Go.all2_eq hws
      subst ew
      walk_at "rd"
      tm_at "tp e"
      have s1e := s2.trans se
      refine ⟨_, _, _, _, rfl, rfl, Bx.Same.tup s1e t1, atI_nat (j := 1) rfl, ?_⟩
      refine ⟨rowD (t.1.map g), t.2.map rowD, dp_row (sqt he), .tup (Bx.Same.tup s1e t3) (dpAll_same s1e t4), shape_row _, shape_rows _, ?_⟩
      rw [in_rows]
      exact q _ s1e
def badK (t : Tab) (g : G) (r : Row) (k : Nat) : Bool := !decide ((g (t.1.getD k default)).getD (r.getD k 0) = r.getD k 0)
theorem bad_ok {t : Tab} {g : G} {r : Row} (nd : t.1.Nodup) (rl : r.length = t.1.length) : (((List.range r.length).filter (badK t g r)).isEmpty) = okG t.1 g r := by
  have at_ : ∀ k z, t.1[k]? = some z → val t.1 r z = r.getD k 0 ∧ t.1.getD k default = z := fun k z h => by
    obtain ⟨lk, ek⟩ := List.getElem?_eq_some_iff.mp h
    refine ⟨?_, by rw [List.getD_eq_getElem?_getD, h]; rfl⟩
    unfold val
    rw [← ek, nd.idxOf_getElem k lk]
  rw [Bool.eq_iff_iff, List.isEmpty_iff, List.filter_eq_nil_iff]
  unfold okG
  rw [List.all_eq_true]
  constructor
  · intro h z hz
    obtain ⟨k, hk⟩ := List.mem_iff_getElem?.mp hz
    obtain ⟨e1, e2⟩ := at_ k z hk
    have lt : k < r.length := by
      rw [rl]
      exact (List.getElem?_eq_some_iff.mp hk).1
    have b := h k (List.mem_range.mpr lt)
    unfold badK at b
    rw [e2] at b
    cases e : g z with
    | none => rfl
    | some v =>
      rw [e] at b
      have b2 : v = r.getD k 0 := by simpa using b
      exact decide_eq_true (by rw [e1, b2])
  · intro h k hk b
    have lt := List.mem_range.mp hk
    rw [rl] at lt
    have hz := List.getElem?_eq_getElem lt
    obtain ⟨e1, e2⟩ := at_ k _ hz
    have a := h _ (List.mem_of_getElem? hz)
    unfold badK at b
    rw [e2] at b
    cases e : g t.1[k] with
    | none =>
      rw [e] at b
      simp at b
    | some v =>
      rw [e] at a b
      have a2 := of_decide_eq_true a
      rw [e1] at a2
      rw [a2] at b
      simp at b
@[irreducible] def spLCan (K : PySem.W.Frag) : Sp := fun vs H Q _ => ∃ (p d : Addr) (t : Tab) (l : As), vs = [.ref p, .ref d] ∧ TabAt K H p t ∧ TOk t ∧ t.1.length ≤ 5 ∧ H d = some (.dK (asV l)) ∧ ∀ H', Same H H' → Q (.bl (canG t (lk l))) H'
set_option maxHeartbeats 1000000 in
theorem ok_lcan {f : Addr} {fd : FuncData} (F : Fun K "_law_can_hold" "_law_can_hold" s__law_can_hold f fd) (m_len : mg "len" = none) (m_range : mg "range" = none) : FnOk P w K mg base CX0 1 f fd ["_law_table_here", "_law_decided"] (spLCan K) := by
  refine F.ok sc__law_can_hold (fun vs H Q E h => ?_) (fun cdv A outer s H vs Q E hr h => ?_)
  · unfold spLCan at h
    obtain ⟨p, d, t, l, rfl, _⟩ := h
    rfl
  · unfold spLCan at h
    obtain ⟨p, d, t, l, rfl, hp, ht, tl, hd, q0⟩ := h
    have hu := hu_of hr
    have tr := len_243 ht tl
    obtain ⟨a1, b1, us1, t1, t2, t3, t4⟩ := hp
    have l1 : us1.length = t.2.length := by rw [da_len t4, List.length_map]
    refine ⟨_, (pss_cons (ps_for PassesOwn.never rfl (pi_tup (pe_ix ix_tup (pv 0) pe_int (fun _ _ => rfl))) (pg_name (i := 2) sc__law_can_hold.nd rfl (Or.inr rfl))
      (pss_one (ps_if (pt_cmpR op_eq (pe_callB call_len_seq (by rfl) m_len PySem.boot_len (pa_cons (pe_lc (own := [("_law_k", 3)]) rfl sc__law_can_hold.nd (pi_range1 (by rfl) m_range (pa_cons (pe_callB call_len_seq (by rfl) m_len PySem.boot_len (pa_cons (pv 2) pa_nil)) pa_nil)) (blkOk_by (N := n__law_can_hold) (sc := defScope s__law_can_hold) (by decide +kernel)) (fun _ _ _ _ _ => pg_name (i := 3) sc__law_can_hold.nd rfl (Or.inl rfl)) (fun _ _ _ _ _ => pts_one (pt_cmpR op_ne (pe_dget2 hu (pv 1) (pe_ix (ix_tupK (K := K) rfl) (pe_ix (ix_tupK (K := K) rfl) (pv 0) pe_int (fun _ _ => rfl)) (pv 3) (fun _ _ => rfl)) (pe_ix (ix_tupK (K := K) rfl) (pv 2) (pv 3) (fun _ _ => rfl)) ⟨rfl, rfl, rfl, rfl⟩) (pe_ix (ix_tupK (K := K) rfl) (pv 2) (pv 3) (fun _ _ => rfl)) (nomark _))) (fun _ _ _ _ _ => (pv 3))) pa_nil)) pe_int (nomark _))
      (pss_one (ps_ret pe_bl))
      pss_nil)))
    (pss_one (ps_ret pe_bl))), ?_⟩
    walk_at "rd"
    tm_at "ix 1"
    refine ⟨⟨_, t3⟩, for_it walk_tup (fun i σ H' => ∃ o2 o3 : Option V, σ = [some (.ref p), some (.ref d), o2, o3] ∧ Same H H' ∧ (t.2.take i).any (okG t.1 (lk l)) = false) ⟨none, none, rfl, Same.refl H, rfl⟩ (fun i σ H' _ ⟨_, _, _, s, _⟩ => Bx.Same.tup s t3) ?_ ?_⟩
    · rintro i x σ H1a H1 hi ⟨o2, o3, rfl, s1, al⟩ ⟨rfl, hx⟩
      obtain ⟨r, hr0, dr⟩ := da_atM t4 hx
      obtain ⟨rq, rfl, hrq⟩ := row_dp dr
      have rl := ht.len (List.mem_of_getElem? hr0)
      walk_at "rd"
      refine ⟨_, _, rfl, .inr (Bx.Same.tup s1 hrq), ?_⟩
      rw [List.length_map]
      walk_at "rd"
      refine ⟨by omega, by omega, fun D nD => ?_⟩
      refine Go.lc_rel walk_range (List.range r.length) (badK t (lk l) r) (fun _ _ _ => True) (by rw [List.length_range]; omega) (by omega) nD (fun _ _ _ _ _ h => h) (fun _ _ _ _ _ _ h => h) (fun _ _ => trivial) Go.yfn ?_ ?_
      · rintro j k y H2a H2 hk s2 ⟨rfl, rfl⟩ Z Z' hZ hZ'
        obtain ⟨lj, ej⟩ := List.getElem?_eq_some_iff.mp hk
        rw [List.length_range] at lj
        rw [List.getElem_range] at ej
        subst ej
        have e1 : t.1[j]? = some (t.1.getD j default) := by rw [List.getD_eq_getElem?_getD, List.getElem?_eq_getElem (by omega : j < t.1.length)]; rfl
        have e2 : r[j]? = some (r.getD j 0) := by rw [List.getD_eq_getElem?_getD, List.getElem?_eq_getElem lj]; rfl
        refine ⟨rfl, ?_⟩
        walk_at "rd"
        have hd2 := s2 _ _ (s1 _ _ hd)
        refine ⟨.inl ⟨_, .inl hd2⟩, ?_⟩
        walk_at "rd"
        tm_at "ix 0"
        tm_at "ixh e1"
        tm_at "ixh e2"
        refine ⟨_, DGet.k (k := .inr (t.1.getD j default)) hd2, ?_⟩
        rw [val_as]
        have eg : ((lk l (t.1.getD j default)).map V.int).getD (V.int (r.getD j 0)) = V.int ((lk l (t.1.getD j default)).getD (r.getD j 0)) := by cases lk l (t.1.getD j default) <;> rfl
        rw [eg]
        walk_at "rd"
        tm_at "ixh e2"
        have eb : (!decide (V.int ((lk l (t.1.getD j default)).getD (r.getD j 0)) = V.int (r.getD j 0))) = badK t (lk l) r j := by
          unfold badK
          congr 1
          rw [decide_eq_decide]
          exact ⟨fun h => V.int.inj h, fun h => by rw [h]⟩
        rw [eb]
        refine ite2 (fun h => ?_) (fun h => ?_)
        · walk_at "rd"
          exact hZ _ _ h (Same.refl _) trivial
        · exact hZ' _ (Bool.eq_false_iff.mpr h) (Same.refl _)
      · rintro H2 ws s2 hW hws
        have wl : ws.length = ((List.range r.length).filter (badK t (lk l) r)).length := hws.len
        have bo := bad_ok (g := lk l) ht.nd rl
        walk_at "rd"
        tm_at "len"
        have tk1 : (t.2.take (i + 1)).any (okG t.1 (lk l)) = okG t.1 (lk l) r := by
          rw [List.take_add_one, hr0, List.any_append, al]
          show (false || (okG t.1 (lk l) r || false)) = _
          rw [Bool.false_or, Bool.or_false]
        have we : ((List.range r.length).filter (badK t (lk l) r)).isEmpty = decide (ws.length = 0) := by
          rw [wl]
          cases (List.range r.length).filter (badK t (lk l) r) <;> rfl
        rw [we] at bo
        refine ite2 (fun h => ?_) (fun h => ?_)
        · have e0 := int_t h
          rw [decide_eq_true (by omega)] at bo
          walk_at "rd"
          have z := q0 _ (s1.trans s2)
          have cT : canG t (lk l) = true := by
            unfold canG
            exact List.any_eq_true.mpr ⟨r, List.mem_of_getElem? hr0, bo.symm⟩
          rw [cT] at z
          exact z
        · have e0 := int_f h
          rw [decide_eq_false (by omega)] at bo
          walk_at "rd"
          exact ⟨_, _, rfl, s1.trans s2, by rw [tk1, ← bo]⟩
    · rintro σ H1 ⟨o2, o3, rfl, s1, al⟩
      rw [l1, List.take_length] at al
      walk_at "rd"
      have z := q0 H1 s1
      unfold canG at z
      rw [al] at z
      exact z
end
end K21
namespace K21
open Go (tupD tupAll Tk tk_same Tk.trans tk_lst dp_tk da_tk All2)
open PySem PySem.Spec PyProof.Rows L2 Bx TL Dx Zx Ow Sup NdefX Px
local macro_rules | `(tactic| walk_at "rd") => `(tactic| repeat (first | refine ⟨rfl, ?_⟩ | refine ⟨_, rfl, ?_⟩ | refine ⟨_, _, rfl, rfl, ?_⟩ | refine ⟨⟨_, rfl⟩, ?_⟩))
local macro_rules
  | `(tactic| tm_at $s:str) => do
    let id (x : String) := Lean.mkIdent (Lean.Name.mkSimple x)
    match s.getString.splitOn " " with
    | ["rd"] => `(tactic| walk_at "rd")
    | ["sz"] => `(tactic| first | exact sz (by decide) | exact szl (by decide) | exact sz (by show _ ≤ 100000; decide) | ((first | refine sz ?_ | refine szl ?_); (try simp only [List.length_map, List.length_append, List.length_cons, List.length_nil, List.length_take, List.length_drop]); omega) | fail "sz: no bound")
    | ["gn", p, h] => `(tactic| (generalize hu : upd _ $(id p) _ = $(id ("H" ++ p)); obtain ⟨$(id ("s" ++ p)), $(id h)⟩ := Go.al $(id ("n" ++ p)) hu; clear hu))
    | ["al", p] => `(tactic| (refine ⟨by tm_at "sz", fun $(id p) $(id ("n" ++ p)) => ?_⟩; generalize hu : upd _ $(id p) _ = $(id ("H" ++ p)); obtain ⟨$(id ("s" ++ p)), $(id ("h" ++ p))⟩ := Go.al $(id ("n" ++ p)) hu; clear hu; tm_at "rd"))
    | ["al0", p] => `(tactic| (refine ⟨by tm_at "sz", fun $(id p) $(id ("n" ++ p)) => ?_⟩; generalize hu : upd _ $(id p) _ = $(id ("H" ++ p)); obtain ⟨$(id ("s" ++ p)), $(id ("h" ++ p))⟩ := Go.al $(id ("n" ++ p)) hu; clear hu; tm_at "rd"))
    | ["new", p] => `(tactic| (refine fun $(id p) $(id ("n" ++ p)) => ?_; generalize hu : upd _ $(id p) _ = $(id ("H" ++ p)); obtain ⟨$(id ("s" ++ p)), $(id ("h" ++ p))⟩ := Go.al $(id ("n" ++ p)) hu; clear hu; tm_at "rd"))
    | ["new0", p] => `(tactic| (refine fun $(id p) $(id ("n" ++ p)) => ?_; generalize hu : upd _ $(id p) _ = $(id ("H" ++ p)); obtain ⟨$(id ("s" ++ p)), $(id ("h" ++ p))⟩ := Go.al $(id ("n" ++ p)) hu; clear hu; tm_at "rd"))
    | ["up"] => `(tactic| first
        | assumption | exact sq (by assumption) | exact sqt (by assumption) | exact PlT.sq (by assumption)
        | (refine' Bx.Same.tup (by assumption) ?hh; (case hh => tm_at "up")) | (refine' Same.seq (by assumption) ?hh; (case hh => tm_at "up")) | (refine' Go.get (by assumption) ?hh; (case hh => tm_at "up")) | (refine' dpAll_same (by assumption) ?hh; (case hh => tm_at "up")) | (refine' dp_same (by assumption) ?hh; (case hh => tm_at "up")) | (refine' PlT.same (by assumption) ?hh; (case hh => tm_at "up")) | (refine' Go.srcS (by assumption) ?hh; (case hh => tm_at "up"))
        | (refine' Go.tupB (s := _) (by assumption) (by assumption) ?hh; (case hh => tm_at "up")) | (refine' Go.dkB (s := _) (by assumption) (by assumption) ?hh; (case hh => tm_at "up")) | (refine' Go.insB (s := _) (by assumption) (by assumption) ?hh; (case hh => tm_at "up")) | (refine' Go.pltB (s := _) (by assumption) (by assumption) ?hh; (case hh => tm_at "up"))
        | (refine' Go.getB (by assumption) (by first | assumption | exact Ne.symm (by assumption)) ?hh; (case hh => tm_at "up"))
        | (refine' sq ?hh; (case hh => tm_at "raw")) | (refine' sqt ?hh; (case hh => tm_at "raw")) | (refine' PlT.sq ?hh; (case hh => tm_at "raw")) | fail "up: no fact")
    | ["raw"] => `(tactic| first
        | assumption | (refine' Go.get (by assumption) ?hh; (case hh => tm_at "raw")) | (refine' PlT.same (by assumption) ?hh; (case hh => tm_at "raw")) | (refine' Go.pltB (s := _) (by assumption) (by assumption) ?hh; (case hh => tm_at "raw")) | (refine' Go.getB (by assumption) (by first | assumption | exact Ne.symm (by assumption)) ?hh; (case hh => tm_at "raw")) | fail "raw: no fact")
    | ["sq"] => `(tactic| first | exact .inl (by tm_at "up") | exact .inr (by tm_at "up") | fail "sq: no fact")
    | ["ix", j] => `(tactic| (refine ⟨_, _, _, _, rfl, rfl, by tm_at "up", by exact atI_nat (j := $(Lean.Syntax.mkNumLit j)) rfl, ?_⟩; tm_at "rd"))
    | ["ixh", h] => `(tactic| (refine ⟨_, _, _, _, rfl, rfl, by tm_at "up", by first | exact Go.at_mapV $(id h) | exact Go.at_mapZ $(id h) | exact atI_nat $(id h) | exact Go.at_nat0 $(id h), ?_⟩; tm_at "rd"))
    | ["len"] => `(tactic| (refine ⟨_, _, rfl, by tm_at "sq", ?_⟩; (try rw [List.length_map]); tm_at "rd"))
    | ["tp", p] => `(tactic| (refine ⟨_, _, rfl, .inl ⟨by tm_at "up", fun $(id p) $(id ("n" ++ p)) => ?_⟩⟩; generalize hu : upd _ $(id p) _ = $(id ("H" ++ p)); obtain ⟨$(id ("s" ++ p)), $(id ("h" ++ p))⟩ := Go.al $(id ("n" ++ p)) hu; clear hu; tm_at "rd"))
    | ["tp0", p] => `(tactic| (refine ⟨_, _, rfl, .inl ⟨by tm_at "up", fun $(id p) $(id ("n" ++ p)) => ?_⟩⟩; generalize hu : upd _ $(id p) _ = $(id ("H" ++ p)); obtain ⟨$(id ("s" ++ p)), $(id ("h" ++ p))⟩ := Go.al $(id ("n" ++ p)) hu; clear hu; tm_at "rd"))
    | ["ls", p] => `(tactic| (refine ⟨_, _, rfl, by tm_at "sq", fun $(id p) $(id ("n" ++ p)) => ?_⟩; generalize hu : upd _ $(id p) _ = $(id ("H" ++ p)); obtain ⟨$(id ("s" ++ p)), $(id ("h" ++ p))⟩ := Go.al $(id ("n" ++ p)) hu; clear hu; tm_at "rd"))
    | ["ls0", p] => `(tactic| (refine ⟨_, _, rfl, by tm_at "sq", fun $(id p) $(id ("n" ++ p)) => ?_⟩; generalize hu : upd _ $(id p) _ = $(id ("H" ++ p)); obtain ⟨$(id ("s" ++ p)), $(id ("h" ++ p))⟩ := Go.al $(id ("n" ++ p)) hu; clear hu; tm_at "rd"))
    | ["tf", p] => `(tactic| (refine ⟨_, _, rfl, by tm_at "up", fun $(id p) $(id ("o" ++ p)) $(id ("n" ++ p)) $(id ("d" ++ p)) => ?_⟩; generalize hu : upd _ $(id p) _ = $(id ("H" ++ p)); obtain ⟨$(id ("s" ++ p)), $(id ("h" ++ p))⟩ := Go.alF $(id ("n" ++ p)) $(id ("d" ++ p)) hu; clear hu; tm_at "rd"))
    | ["alF", p] => `(tactic| (refine ⟨by tm_at "sz", fun $(id p) $(id ("o" ++ p)) $(id ("n" ++ p)) $(id ("d" ++ p)) => ?_⟩; generalize hu : upd _ $(id p) _ = $(id ("H" ++ p)); obtain ⟨$(id ("s" ++ p)), $(id ("h" ++ p))⟩ := Go.alF $(id ("n" ++ p)) $(id ("d" ++ p)) hu; clear hu; tm_at "rd"))
    | ["bare", k] => `(tactic| (refine fun $(id k) $(id ("d" ++ k)) $(id ("n" ++ k)) $(id ("nd" ++ k)) $(id ("ne" ++ k)) => ?_; generalize hu : upd (upd _ $(id ("d" ++ k)) _) $(id k) _ = $(id ("H" ++ k)); obtain ⟨$(id ("s" ++ k)), $(id ("h" ++ k))⟩ := Go.bare $(id ("n" ++ k)) $(id ("nd" ++ k)) $(id ("ne" ++ k)) hu; clear hu; walk_at "rd"))
    | ["me"] => `(tactic| (refine ⟨_, _, _, rfl, by tm_at "up", rfl, ?_⟩; walk_at "rd"))
    | ["star"] => `(tactic| ((first | refine ⟨_, _, rfl, .inl (by tm_at "up"), ?_⟩ | refine ⟨_, _, rfl, .inr (by tm_at "up"), ?_⟩ | fail "star"); walk_at "rd"))
    | ["ap0"] => `(tactic| (refine ⟨.inl ⟨rfl, _, by tm_at "up"⟩, ?_⟩; tm_at "rd"))
    | ["ap"] => `(tactic| refine ⟨_, _, _, rfl, rfl, by tm_at "up", by tm_at "sz", ?_⟩)
    | ["un", n] => match n with
      | "2" => `(tactic| (refine ⟨_, _, rfl, by tm_at "up", rfl, _, _, rfl, _, _, rfl, rfl, ?_⟩; tm_at "rd"))
      | _ => `(tactic| (refine ⟨_, _, rfl, by tm_at "up", rfl, _, _, rfl, _, _, rfl, _, _, rfl, rfl, ?_⟩; tm_at "rd"))
    | _ => Lean.Macro.throwUnsupported
/-! ### dicts out of dicts -/
theorem star_heap {H : Hp} {p p2 : Addr} {kvs : List (Key × V)} {k : Key} {z : V} {r : List (Key × V)} (np : H p = none) (np2 : (upd (upd H p (.dK [])) p (.dK kvs)) p2 = none) :
    Same H (upd (upd (upd (upd (upd H p (.dK [])) p (.dK kvs)) p2 (.dK [])) p2 (.dK [(k, z)])) p (.dK r)) ∧ (upd (upd (upd (upd (upd H p (.dK [])) p (.dK kvs)) p2 (.dK [])) p2 (.dK [(k, z)])) p (.dK r)) p = some (.dK r) := by
  refine ⟨fun b o hb => ?_, upd_same⟩
  have n12 : p2 ≠ p := fun e => by rw [e, upd_same] at np2; cases np2
  have np2' : H p2 = none := by rw [upd_upd, upd_ne n12] at np2; exact np2
  rw [upd_ne (ne_of_none hb np), upd_ne (ne_of_none hb np2'), upd_ne (ne_of_none hb np2'), upd_upd, upd_ne (ne_of_none hb np)]
  exact hb
theorem dstar_of {σ : List (Option V)} {H : Hp} {Q : VK} {i j m : Nat} {d : Addr} {l : As} {s : Str} {v : Int} (e1 : σ[i]? = some (some (.ref d))) (e2 : σ[j]? = some (some (.str s))) (e3 : σ[m]? = some (some (.int v))) (hd : H d = some (.dK (asV l))) (ns : s ∉ l.map (·.1)) (ll : l.length ≤ 1000)
    (q : ∀ p H', Same H H' → H p = none → H' p = some (.dK (asV (l ++ [(s, v)]))) → Q (.ref p) H') : Dd.tDStar (tVar i) (tVar j) (tVar m) σ H Q := by
  refine fun p np => ⟨_, e1, ?_⟩
  have nap : d ≠ p := fun e => by rw [← e, hd] at np; cases np
  refine ⟨d, asV l, rfl, by rw [upd_ne nap]; exact hd, nap, upd_same, by rw [show (asV l).length = l.length from List.length_map _]; exact sz (by omega), fun p2 np2 => ?_⟩
  have n12 : p2 ≠ p := fun e => by rw [e, upd_same] at np2; cases np2
  refine ⟨_, e2, _, e3, ?_⟩
  refine ⟨.inr s, .int v, rfl, by rw [upd_ne (Ne.symm n12), upd_same], upd_same, ?_⟩
  obtain ⟨s67, hp7⟩ := star_heap (k := .inr s) (z := .int v) (r := putK (asV l) (.inr s) (.int v)) np np2
  rw [put_as ns] at s67 hp7 ⊢
  exact q p _ s67 np hp7
/-- the theory of these names and tables -/
def ThAt (K : PySem.W.Frag) (H : Hp) (p : Addr) (ns : List Str) (ts : List Tab) : Prop := ∃ a b us, SqT K H p [.ref a, .ref b] ∧ SqT K H a (ns.map V.str) ∧ SqT K H b us ∧ TAll K H us ts
theorem ThAt.kp {K : PySem.W.Frag} {H H' : Hp} (k : Kp K H H') {p : Addr} {ns : List Str} {ts : List Tab} (h : ThAt K H p ns ts) : ThAt K H' p ns ts := by
  obtain ⟨a, b, us, h1, h2, h3, h4⟩ := h
  exact ⟨a, b, us, k.1 _ _ h1, k.1 _ _ h2, k.1 _ _ h3, h4.kp k⟩
theorem ThAt.same {K : PySem.W.Frag} {H H' : Hp} (k : Same H H') {p : Addr} {ns : List Str} {ts : List Tab} (h : ThAt K H p ns ts) : ThAt K H' p ns ts := h.kp (kp_same k)
theorem TabAt.same {K : PySem.W.Frag} {H H' : Hp} (k : Same H H') {p : Addr} {t : Tab} (h : TabAt K H p t) : TabAt K H' p t := h.kp (kp_same k)
structure TsOk (ts : List Tab) : Prop where
  ok : ∀ t ∈ ts, TOk t ∧ t.1.length ≤ 5
theorem tr_leaf {K : PySem.W.Frag} {H : Hp} {v : V} {i : Int} (h : Dp K H v (trD (.leaf i))) : v = .int i := dp_int h
theorem tr_node {K : PySem.W.Frag} {H : Hp} {v : V} {s : Str} {a b c : Tr} (h : Dp K H v (trD (.node s a b c))) : ∃ p va vb vc, v = .ref p ∧ SqT K H p [.str s, va, vb, vc] ∧ Dp K H va (trD a) ∧ Dp K H vb (trD b) ∧ Dp K H vc (trD c) := by
  obtain ⟨p, xs, rfl, hp, ha⟩ := dp_tup h
  cases ha with
  | cons h0 h1 =>
    cases h1 with
    | cons h1 h2 =>
      cases h2 with
      | cons h2 h3 =>
        cases h3 with
        | cons h3 h4 =>
          cases h4
          rw [dp_str h0] at hp
          exact ⟨p, _, _, _, rfl, hp, h1, h2, h3⟩
section
variable {P : Program} {w : World} {K : PySem.W.Frag} {mg : Str → Option Value} {base : Heap}
def spRight (K : PySem.W.Frag) : Nat → Sp
  | 0 => fun _ _ _ _ => False
  | k + 1 => fun vs H Q _ => ∃ (th cp d : Addr) (v : V) (ns : List Str) (ts : List Tab) (q : Tab) (tr : Tr) (l : As), vs = [.ref th, .ref cp, v, .ref d] ∧ ThAt K H th ns ts ∧ TabAt K H cp q ∧ Dp K H v (trD tr) ∧ dep tr ≤ k ∧ TsOk ts ∧ ns.length ≤ 20 ∧ q.1.length ≤ 20 ∧ H d = some (.dK (asV l)) ∧ l.length + k ≤ 100 ∧ ∀ H', Same H H' → Q (.bl (Rt ns ts q tr (lk l))) H'
set_option maxHeartbeats 2000000 in
theorem ok_right {f : Addr} {fd : FuncData} (F : Fun K "_is_right" "_is_right" s__is_right f fd) (m_isinstance : mg "isinstance" = none) (m_int : mg "int" = none) (m_len : mg "len" = none) (m_list : mg "list" = none) (m_zip : mg "zip" = none) (m_all : mg "all" = none) (C_can_hold : Cal P w K mg base "can_hold" 2 ["constraint", "decided"] (spCan K)) (C__is_shown : Cal P w K mg base "_is_shown" 1 ["constraint", "decided"] (spShown K))
    {tv : Addr} (m_VALUES : mg "VALUES" = some (.ref tv)) (t_VALUES : ∀ H : Hp, SqT K H tv [.int 0, .int 1, .int 2])
    (gS : mg "_is_right" = some (.ref f)) (kS : PySem.W.keepIn K (.ref f) = true) (bS : Binds K fd ["theory", "constraint", "tree", "decided"] []) : ∀ k : Nat, FnOk P w K mg base CX0 (k + 2) f fd ["theory", "constraint", "tree", "decided"] (spRight K k)
  | 0 => F.ok sc__is_right (fun vs H Q E h => h.elim) (fun cdv A outer s H vs Q E hr h => h.elim)
  | k + 1 => by
    have C__is_right : Cal P w K mg base "_is_right" (k + 2) ["theory", "constraint", "tree", "decided"] (spRight K k) := ⟨_, _, ok_right F m_isinstance m_int m_len m_list m_zip m_all C_can_hold C__is_shown m_VALUES t_VALUES gS kS bS k, gS, kS, bS⟩
    refine F.ok sc__is_right (fun vs H Q E h => ?_) (fun cdv A outer s H vs Q E hr h => ?_)
    · obtain ⟨th, cp, d, v, ns, ts, q, tr, l, rfl, _⟩ := h
      rfl
    · obtain ⟨th, cp, d, v, ns, ts, q, tr, l, rfl, hth, hq, htr, dk, tok, nl, ql, hd, ll, q0⟩ := h
      have hu := hu_of hr
      obtain ⟨na, ta, us, h1, h2, h3, h4⟩ := id hth
      refine ⟨_, (pss_cons (ps_asg (pv 0) (pg_tup rfl (pgs_cons (pg_name (i := 6) sc__is_right.nd rfl (Or.inl rfl)) (pgs_cons (pg_name (i := 7) sc__is_right.nd rfl (Or.inl rfl)) pgs_nil))))
    (pss_cons (ps_if (pt_val (pe_callB (id := "isinstance") call_isi (by rfl) m_isinstance (by decide +kernel) (pa_cons (pv 2) (pa_cons (pe_bltn (v := .ty "int") (by rfl) m_int (by decide +kernel) rfl) pa_nil))))
      (pss_cons (ps_if (pt_cmpR op_eq (pv 2) (pe_un un_neg pe_int) (nomark _))
      (pss_one (ps_ret (pe_cal C__is_shown (hr.mono (by omega)) (pa_cons (pv 1) (pa_cons (pv 3) pa_nil)))))
      pss_nil)
    (pss_one (ps_ret (pe_and (pe_chain op_le op_lt pe_int (pv 2) (pe_callB call_len_seq (by rfl) m_len PySem.boot_len (pa_cons (pv 7) pa_nil))) (pe_one (pe_not (pe_cal C_can_hold (hr.mono (by omega)) (pa_cons (pe_ix ix_tup (pv 7) (pv 2) (fun _ _ => rfl)) (pa_cons (pv 3) pa_nil)))))))))
      pss_nil)
    (pss_cons (ps_set (i := 4) sc__is_right.nd rfl (Or.inr rfl) (pe_ix ix_tup (pv 2) pe_int (fun _ _ => rfl)))
    (pss_cons (ps_if (PW.pt (pw_or (pt_cmpR op_notIn_seq (pv 4) (pv 6) (by rfl)) (pw_or1 (pt_cmp (pc_din hu (pv 4) (pv 3))))))
      (pss_one (ps_ret pe_bl))
      pss_nil)
    (pss_cons (ps_set (i := 5) sc__is_right.nd rfl (Or.inl rfl) (Lz.pe_listZip rfl (by rfl) m_list (by rfl) m_zip (pa_cons (pe_glob (v := .ref tv) rfl m_VALUES rfl) (pa_cons (pe_slice sl_tupA (pv 2) (po_some pe_int) po_none) pa_nil))))
    (pss_one (ps_ret (pe_callB (id := "all") (cr_all rfl) (by rfl) m_all (by decide +kernel) (pa_cons (pe_lc (own := [("value", 8), ("branch", 9)]) (tt := tYes) rfl sc__is_right.nd (pi_list (pv 5)) (blkOk_by (N := n__is_right) (sc := defScope s__is_right) (by decide +kernel)) (fun _ _ _ _ _ => pg_tupK (K := K) (n := 2) rfl rfl (pgs_cons (pg_name (i := 8) sc__is_right.nd rfl (Or.inl rfl)) (pgs_cons (pg_name (i := 9) sc__is_right.nd rfl (Or.inl rfl)) pgs_nil))) (fun _ _ _ _ _ => pts_nil) (fun _ _ _ _ _ => (pe_cal C__is_right (hr.mono (by omega)) (pa_cons (pv 0) (pa_cons (pv 1) (pa_cons (pv 9) (pa_cons (Dd.pe_dstar (pv 3) (pv 4) (pv 8)) pa_nil))))))) pa_nil))))))))), ?_⟩
      walk_at "rd"
      tm_at "un 2"
      cases tr with
      | leaf i =>
        obtain rfl := tr_leaf htr
        refine ⟨_, _, _, _, true, rfl, .ty "int", .base (.int _), kit_ty (by decide +kernel), ?_⟩
        walk_at "rd"
        refine ite2 (fun m => ?_) (fun m => ?_)
        · have e1 : i = -1 := int_t m
          subst e1
          walk_at "rd"
          show spShown K _ _ _ _
          unfold spShown
          exact ⟨cp, d, q, l, rfl, hq, ql, hd, fun H1 s1 => q0 H1 s1⟩
        · have e1 : i ≠ -1 := int_f m
          have eR : Rt ns ts q (.leaf i) (lk l) = (decide (0 ≤ i) && decide (i < (ts.length : Nat)) && !canG (ts.getD i.toNat ([], [])) (lk l)) := by
            unfold Rt
            rw [if_neg e1]
          rw [eR] at q0
          walk_at "rd"
          refine ite2 (fun c0 => ?_) (fun c0 => ?_)
          · rw [c0, Bool.true_and] at q0
            have i0 := of_decide_eq_true c0
            walk_at "rd"
            refine ⟨_, _, rfl, .inr h3, ?_⟩
            rw [h4.len]
            walk_at "rd"
            refine ite2 (fun c1 => ?_) (fun c1 => ?_)
            · rw [c1, Bool.true_and] at q0
              have i1 := of_decide_eq_true c1
              obtain ⟨j, rfl⟩ : ∃ j : Nat, i = (j : Int) := ⟨i.toNat, by omega⟩
              have lj : j < ts.length := by omega
              have et := List.getElem?_eq_getElem lj
              obtain ⟨u, hu, p, rfl, hp⟩ := h4.at' et
              rw [Int.toNat_natCast, List.getD_eq_getElem?_getD, et] at q0
              obtain ⟨ok, l5⟩ := tok.ok _ (List.mem_of_getElem? et)
              walk_at "rd"
              refine ⟨_, _, _, _, rfl, rfl, h3, atI_nat hu, ?_⟩
              walk_at "rd"
              show spCan K _ _ _ _
              unfold spCan
              refine ⟨p, d, _, l, rfl, hp, ok, l5, hd, fun H1 s1 => ?_⟩
              rw [okR_G]
              walk_at "rd"
              exact q0 H1 s1
            · rw [Bool.eq_false_iff.mpr c1, Bool.false_and] at q0
              exact q0 H (Same.refl H)
          · rw [Bool.eq_false_iff.mpr c0, Bool.false_and, Bool.false_and] at q0
            walk_at "rd"
            exact q0 H (Same.refl H)
      | node sn a b c =>
        obtain ⟨p, va, vb, vc, rfl, hp, ha, hb, hc⟩ := tr_node htr
        refine ⟨_, _, _, _, false, rfl, .ty "int", ty_tup hp, kit_ty (by decide +kernel), ?_⟩
        walk_at "rd"
        tm_at "ix 0"
        have keyn : (lk l sn).isNone = decide (sn ∉ l.map (·.1)) := by
          rw [Bool.eq_iff_iff, Option.isNone_iff_eq_none, lk_none, decide_eq_true_iff]
        have eR : Rt ns ts q (.node sn a b c) (lk l) = (decide (sn ∈ ns) && (lk l sn).isNone && (Rt ns ts q a (setG (lk l) sn 0) && (Rt ns ts q b (setG (lk l) sn 1) && Rt ns ts q c (setG (lk l) sn 2)))) := rfl
        have dk2 : 1 + max (dep a) (max (dep b) (dep c)) ≤ k := dk
        obtain ⟨k, rfl⟩ : ∃ j, k = j + 1 := ⟨k - 1, by omega⟩
        refine ⟨_, _, rfl, .inr h2, rfl, flat_all _, ?_⟩
        rw [inV_str]
        by_cases c1 : sn ∈ ns
        · rw [decide_eq_true c1]
          rw [eR, decide_eq_true c1, Bool.true_and] at q0
          walk_at "rd"
          refine ⟨_, _, rfl, DGet.k (k := .inr sn) hd, ?_⟩
          rw [val_as, Option.isSome_map]
          by_cases c2 : sn ∈ l.map (·.1)
          · rw [keyn, decide_eq_false (fun h => h c2), Bool.false_and] at q0
            have c3 : (lk l sn).isSome = true := by
              rw [← Option.not_isNone, keyn, decide_eq_false (fun h => h c2)]
              rfl
            rw [c3]
            walk_at "rd"
            exact q0 H (Same.refl H)
          · rw [keyn, decide_eq_true c2, Bool.true_and] at q0
            have c3 : (lk l sn).isSome = false := by
              rw [← Option.not_isNone, keyn, decide_eq_true c2]
              rfl
            rw [c3]
            walk_at "rd"
            unfold tNoPart
            refine slice_any hp fun c' H1 s1 hc' => ?_
            rw [show (1 : Int) = ((1 : Nat) : Int) from rfl, cut_suf] at hc'
            have hc2 : SqT K H1 c' [va, vb, vc] := hc'
            walk_at "rd"
            refine ⟨tv, c', _, _, rfl, t_VALUES _, hc2, by decide, fun z acc H2 s2 nz hz al prs => ?_⟩
            have al3 : acc.length = 3 := al
            have s12 : Same H H2 := s1.trans s2
            walk_at "rd"
            refine ⟨⟨_, sq hz⟩, fun D nD => ?_⟩
            have each : ∀ (j : Nat) (x : Int × Tr), [((0 : Int), a), (1, b), (2, c)][j]? = some x → ∃ y, [V.int 0, V.int 1, V.int 2][j]? = some (.int x.1) ∧ [va, vb, vc][j]? = some y ∧ Dp K H y (trD x.2) ∧ dep x.2 ≤ k := fun j x h => by
              match j, h with
              | 0, h => cases h; exact ⟨va, rfl, rfl, ha, by show dep a ≤ k; omega⟩
              | 1, h => cases h; exact ⟨vb, rfl, rfl, hb, by show dep b ≤ k; omega⟩
              | 2, h => cases h; exact ⟨vc, rfl, rfl, hc, by show dep c ≤ k; omega⟩
            refine Go.lc_rel walk_list [((0 : Int), a), (1, b), (2, c)] (fun _ => true) (fun H v x => v = .bl (Rt ns ts q x.2 (setG (lk l) sn x.1))) al3.symm (by omega) nD (fun _ _ _ _ _ h => h) (fun _ _ _ _ _ _ h => h) (fun H' s => sq (s _ _ hz)) Go.yat ?_ ?_
            · rintro j x y H3a H3 hx s3 ⟨rfl, hy⟩ Z Z' hZ _
              obtain ⟨yv, x1, x2, dx, dl⟩ := each j x hx
              obtain ⟨xa, ya, T, e1, e2, rfl, hT⟩ := prs j y hy
              rw [x1] at e1
              cases e1
              rw [x2] at e2
              cases e2
              have s03 := s12.trans s3
              refine ⟨_, _, rfl, sqt (s3 _ _ hT), rfl, _, _, rfl, _, _, rfl, rfl, ?_⟩
              walk_at "rd"
              refine dstar_of rfl rfl rfl (s03 _ _ hd) c2 (by omega) fun p2 H4 s4 np hp2 => ?_
              have s04 := s03.trans s4
              refine ⟨th, cp, p2, yv, ns, ts, q, x.2, l ++ [(sn, x.1)], rfl, hth.same s04, hq.same s04, dp_same s04 dx, dl, tok, nl, ql, hp2, by rw [List.length_append]; show l.length + 1 + k ≤ 100; omega, fun H5 s5 => ?_⟩
              rw [lk_snoc c2]
              exact hZ _ _ rfl (s4.trans s5) rfl
            · rintro H3 ws s3 hW hws
              rw [List.filter_eq_self.mpr fun _ _ => rfl] at hws
              have ew : ws = ([((0 : Int), a), (1, b), (2, c)].map fun x => Rt ns ts q x.2 (setG (lk l) sn x.1)).map V.bl := by
                rw [List.map_map]
                exact Go.all2_eq hws
              subst ew
              refine ⟨D, _, rfl, sq hW, ?_⟩
              have z := q0 H3 (s12.trans s3)
              simp only [List.map_cons, List.map_nil, List.all_cons, List.all_nil, Bool.and_true, id]
              exact z
        · rw [decide_eq_false c1]
          rw [eR, decide_eq_false c1, Bool.false_and, Bool.false_and] at q0
          walk_at "rd"
          exact q0 H (Same.refl H)
end
end K21
namespace K21
open Go (tupD tupAll Tk tk_same Tk.trans tk_lst dp_tk da_tk All2)
open PySem PySem.Spec PyProof.Rows L2 Bx TL Dx Zx Ow Sup NdefX Px
local macro_rules | `(tactic| walk_at "rd") => `(tactic| repeat (first | refine ⟨rfl, ?_⟩ | refine ⟨_, rfl, ?_⟩ | refine ⟨_, _, rfl, rfl, ?_⟩ | refine ⟨⟨_, rfl⟩, ?_⟩))
local macro_rules
  | `(tactic| tm_at $s:str) => do
    let id (x : String) := Lean.mkIdent (Lean.Name.mkSimple x)
    match s.getString.splitOn " " with
    | ["rd"] => `(tactic| walk_at "rd")
    | ["sz"] => `(tactic| first | exact sz (by decide) | exact szl (by decide) | exact sz (by show _ ≤ 100000; decide) | ((first | refine sz ?_ | refine szl ?_); (try simp only [List.length_map, List.length_append, List.length_cons, List.length_nil, List.length_take, List.length_drop]); omega) | fail "sz: no bound")
    | ["gn", p, h] => `(tactic| (generalize hu : upd _ $(id p) _ = $(id ("H" ++ p)); obtain ⟨$(id ("s" ++ p)), $(id h)⟩ := Go.al $(id ("n" ++ p)) hu; clear hu))
    | ["al", p] => `(tactic| (refine ⟨by tm_at "sz", fun $(id p) $(id ("n" ++ p)) => ?_⟩; generalize hu : upd _ $(id p) _ = $(id ("H" ++ p)); obtain ⟨$(id ("s" ++ p)), $(id ("h" ++ p))⟩ := Go.al $(id ("n" ++ p)) hu; clear hu; tm_at "rd"))
    | ["al0", p] => `(tactic| (refine ⟨by tm_at "sz", fun $(id p) $(id ("n" ++ p)) => ?_⟩; generalize hu : upd _ $(id p) _ = $(id ("H" ++ p)); obtain ⟨$(id ("s" ++ p)), $(id ("h" ++ p))⟩ := Go.al $(id ("n" ++ p)) hu; clear hu; tm_at "rd"))
    | ["new", p] => `(tactic| (refine fun $(id p) $(id ("n" ++ p)) => ?_; generalize hu : upd _ $(id p) _ = $(id ("H" ++ p)); obtain ⟨$(id ("s" ++ p)), $(id ("h" ++ p))⟩ := Go.al $(id ("n" ++ p)) hu; clear hu; tm_at "rd"))
    | ["new0", p] => `(tactic| (refine fun $(id p) $(id ("n" ++ p)) => ?_; generalize hu : upd _ $(id p) _ = $(id ("H" ++ p)); obtain ⟨$(id ("s" ++ p)), $(id ("h" ++ p))⟩ := Go.al $(id ("n" ++ p)) hu; clear hu; tm_at "rd"))
    | ["up"] => `(tactic| first
        | assumption | exact sq (by assumption) | exact sqt (by assumption) | exact PlT.sq (by assumption)
        | (refine' Bx.Same.tup (by assumption) ?hh; (case hh => tm_at "up")) | (refine' Same.seq (by assumption) ?hh; (case hh => tm_at "up")) | (refine' Go.get (by assumption) ?hh; (case hh => tm_at "up")) | (refine' dpAll_same (by assumption) ?hh; (case hh => tm_at "up")) | (refine' dp_same (by assumption) ?hh; (case hh => tm_at "up")) | (refine' PlT.same (by assumption) ?hh; (case hh => tm_at "up")) | (refine' Go.srcS (by assumption) ?hh; (case hh => tm_at "up"))
        | (refine' Go.tupB (s := _) (by assumption) (by assumption) ?hh; (case hh => tm_at "up")) | (refine' Go.dkB (s := _) (by assumption) (by assumption) ?hh; (case hh => tm_at "up")) | (refine' Go.insB (s := _) (by assumption) (by assumption) ?hh; (case hh => tm_at "up")) | (refine' Go.pltB (s := _) (by assumption) (by assumption) ?hh; (case hh => tm_at "up"))
        | (refine' Go.getB (by assumption) (by first | assumption | exact Ne.symm (by assumption)) ?hh; (case hh => tm_at "up"))
        | (refine' sq ?hh; (case hh => tm_at "raw")) | (refine' sqt ?hh; (case hh => tm_at "raw")) | (refine' PlT.sq ?hh; (case hh => tm_at "raw")) | fail "up: no fact")
    | ["raw"] => `(tactic| first
        | assumption | (refine' Go.get (by assumption) ?hh; (case hh => tm_at "raw")) | (refine' PlT.same (by assumption) ?hh; (case hh => tm_at "raw")) | (refine' Go.pltB (s := _) (by assumption) (by assumption) ?hh; (case hh => tm_at "raw")) | (refine' Go.getB (by assumption) (by first | assumption | exact Ne.symm (by assumption)) ?hh; (case hh => tm_at "raw")) | fail "raw: no fact")
    | ["sq"] => `(tactic| first | exact .inl (by tm_at "up") | exact .inr (by tm_at "up") | fail "sq: no fact")
    | ["ix", j] => `(tactic| (refine ⟨_, _, _, _, rfl, rfl, by tm_at "up", by exact atI_nat (j := $(Lean.Syntax.mkNumLit j)) rfl, ?_⟩; tm_at "rd"))
    | ["ixh", h] => `(tactic| (refine ⟨_, _, _, _, rfl, rfl, by tm_at "up", by first | exact Go.at_mapV $(id h) | exact Go.at_mapZ $(id h) | exact atI_nat $(id h) | exact Go.at_nat0 $(id h), ?_⟩; tm_at "rd"))
    | ["len"] => `(tactic| (refine ⟨_, _, rfl, by tm_at "sq", ?_⟩; (try rw [List.length_map]); tm_at "rd"))
    | ["tp", p] => `(tactic| (refine ⟨_, _, rfl, .inl ⟨by tm_at "up", fun $(id p) $(id ("n" ++ p)) => ?_⟩⟩; generalize hu : upd _ $(id p) _ = $(id ("H" ++ p)); obtain ⟨$(id ("s" ++ p)), $(id ("h" ++ p))⟩ := Go.al $(id ("n" ++ p)) hu; clear hu; tm_at "rd"))
    | ["tp0", p] => `(tactic| (refine ⟨_, _, rfl, .inl ⟨by tm_at "up", fun $(id p) $(id ("n" ++ p)) => ?_⟩⟩; generalize hu : upd _ $(id p) _ = $(id ("H" ++ p)); obtain ⟨$(id ("s" ++ p)), $(id ("h" ++ p))⟩ := Go.al $(id ("n" ++ p)) hu; clear hu; tm_at "rd"))
    | ["ls", p] => `(tactic| (refine ⟨_, _, rfl, by tm_at "sq", fun $(id p) $(id ("n" ++ p)) => ?_⟩; generalize hu : upd _ $(id p) _ = $(id ("H" ++ p)); obtain ⟨$(id ("s" ++ p)), $(id ("h" ++ p))⟩ := Go.al $(id ("n" ++ p)) hu; clear hu; tm_at "rd"))
    | ["ls0", p] => `(tactic| (refine ⟨_, _, rfl, by tm_at "sq", fun $(id p) $(id ("n" ++ p)) => ?_⟩; generalize hu : upd _ $(id p) _ = $(id ("H" ++ p)); obtain ⟨$(id ("s" ++ p)), $(id ("h" ++ p))⟩ := Go.al $(id ("n" ++ p)) hu; clear hu; tm_at "rd"))
    | ["tf", p] => `(tactic| (refine ⟨_, _, rfl, by tm_at "up", fun $(id p) $(id ("o" ++ p)) $(id ("n" ++ p)) $(id ("d" ++ p)) => ?_⟩; generalize hu : upd _ $(id p) _ = $(id ("H" ++ p)); obtain ⟨$(id ("s" ++ p)), $(id ("h" ++ p))⟩ := Go.alF $(id ("n" ++ p)) $(id ("d" ++ p)) hu; clear hu; tm_at "rd"))
    | ["alF", p] => `(tactic| (refine ⟨by tm_at "sz", fun $(id p) $(id ("o" ++ p)) $(id ("n" ++ p)) $(id ("d" ++ p)) => ?_⟩; generalize hu : upd _ $(id p) _ = $(id ("H" ++ p)); obtain ⟨$(id ("s" ++ p)), $(id ("h" ++ p))⟩ := Go.alF $(id ("n" ++ p)) $(id ("d" ++ p)) hu; clear hu; tm_at "rd"))
    | ["bare", k] => `(tactic| (refine fun $(id k) $(id ("d" ++ k)) $(id ("n" ++ k)) $(id ("nd" ++ k)) $(id ("ne" ++ k)) => ?_; generalize hu : upd (upd _ $(id ("d" ++ k)) _) $(id k) _ = $(id ("H" ++ k)); obtain ⟨$(id ("s" ++ k)), $(id ("h" ++ k))⟩ := Go.bare $(id ("n" ++ k)) $(id ("nd" ++ k)) $(id ("ne" ++ k)) hu; clear hu; walk_at "rd"))
    | ["me"] => `(tactic| (refine ⟨_, _, _, rfl, by tm_at "up", rfl, ?_⟩; walk_at "rd"))
    | ["star"] => `(tactic| ((first | refine ⟨_, _, rfl, .inl (by tm_at "up"), ?_⟩ | refine ⟨_, _, rfl, .inr (by tm_at "up"), ?_⟩ | fail "star"); walk_at "rd"))
    | ["ap0"] => `(tactic| (refine ⟨.inl ⟨rfl, _, by tm_at "up"⟩, ?_⟩; tm_at "rd"))
    | ["ap"] => `(tactic| refine ⟨_, _, _, rfl, rfl, by tm_at "up", by tm_at "sz", ?_⟩)
    | ["un", n] => match n with
      | "2" => `(tactic| (refine ⟨_, _, rfl, by tm_at "up", rfl, _, _, rfl, _, _, rfl, rfl, ?_⟩; tm_at "rd"))
      | _ => `(tactic| (refine ⟨_, _, rfl, by tm_at "up", rfl, _, _, rfl, _, _, rfl, _, _, rfl, rfl, ?_⟩; tm_at "rd"))
    | _ => Lean.Macro.throwUnsupported
theorem shown_can {q : Tab} {g : G} (ok : TOk q) : shownG q g = ((q.1.all fun z => (g z).isSome) && canG q g) := by
  unfold shownG
  by_cases c : (q.1.all fun z => (g z).isSome) = true
  · rw [c, Bool.true_and, Bool.true_and]
    have c2 := List.all_eq_true.mp c
    have one : ∀ r ∈ q.2, okG q.1 g r = decide (q.1.map (fun z => (g z).getD 0) = r) := fun r hr => by
      have er := pk_self ok.nd (ok.len hr)
      rw [Bool.eq_iff_iff, decide_eq_true_iff]
      unfold okG
      rw [List.all_eq_true]
      constructor
      · intro h
        rw [← er]
        refine List.map_congr_left fun z hz => ?_
        have a := h z hz
        obtain ⟨v, ev⟩ := Option.isSome_iff_exists.mp (c2 z hz)
        rw [ev] at a ⊢
        exact (of_decide_eq_true a).symm
      · intro h z hz
        obtain ⟨v, ev⟩ := Option.isSome_iff_exists.mp (c2 z hz)
        rw [ev]
        refine decide_eq_true ?_
        rw [← h, val_map hz, ev]
        rfl
    unfold canG
    rw [Bool.eq_iff_iff, decide_eq_true_iff, List.any_eq_true]
    constructor
    · intro h
      exact ⟨_, h, by rw [one _ h]; exact decide_eq_true rfl⟩
    · rintro ⟨r, hr, h⟩
      rw [one r hr] at h
      rw [of_decide_eq_true h]
      exact hr
  · rw [Bool.eq_false_iff.mpr c, Bool.false_and, Bool.false_and]
theorem filter_none_len {α : Type} {p : α → Bool} (l : List α) : decide ((l.filter fun z => !p z).length = 0) = l.all p := by
  rw [Bool.eq_iff_iff, decide_eq_true_iff, List.length_eq_zero_iff, List.filter_eq_nil_iff, List.all_eq_true]
  exact ⟨fun h z hz => by have := h z hz; simpa using this, fun h z hz => by have := h z hz; simpa using this⟩
theorem more_put {l : As} {i : Nat} {p : Str × Int} {s : Str} {v : Int} (nd : (l.map (·.1)).Nodup) (ns : s ∉ l.map (·.1)) (h : l[i]? = some p) : putK (asV ((s, v) :: l.take i)) (.inr p.1) (.int p.2) = asV ((s, v) :: l.take (i + 1)) := by
  rw [put_as]
  · rw [List.take_add_one, h]
    rfl
  · intro z
    rcases List.mem_cons.mp z with e | e
    · have e2 : p.1 = s := e
      exact ns (e2 ▸ List.mem_map.mpr ⟨p, List.mem_of_getElem? h, rfl⟩)
    · rw [List.map_take] at e
      exact Go.nd_take nd (by rw [List.getElem?_map, h]; rfl) e
theorem val_at_as : ∀ {l : As} {i : Nat} {p : Str × Int}, (l.map (·.1)).Nodup → l[i]? = some p → valV (asV l) (.inr p.1) = some (.int p.2) := fun {l i p} nd h => by
  rw [val_as]
  have e : lk l p.1 = some p.2 := by
    unfold lk
    have : l.find? (fun x => decide (x.1 = p.1)) = some p := by
      rw [List.find?_eq_some_iff_getElem]
      obtain ⟨li, ei⟩ := List.getElem?_eq_some_iff.mp h
      refine ⟨decide_eq_true rfl, i, li, ei, fun j hj => ?_⟩
      have nd2 := Go.nd_take nd (show (l.map (·.1))[i]? = some p.1 by rw [List.getElem?_map, h]; rfl)
      have lj : j < l.length := by omega
      have : (l[j]).1 ≠ p.1 := fun e => nd2 (by
        rw [← e, ← List.map_take]
        refine List.mem_map.mpr ⟨l[j], ?_, rfl⟩
        rw [List.mem_take_iff_getElem]
        exact ⟨j, by omega, rfl⟩)
      simpa using this
    rw [this]
    rfl
  rw [e]
  rfl
section
variable {P : Program} {w : World} {K : PySem.W.Frag} {mg : Str → Option Value} {base : Heap}
def spRowsShow (K : PySem.W.Frag) : Nat → Sp
  | 0 => fun _ _ _ _ => False
  | k + 1 => fun vs H Q _ => ∃ (th cp d : Addr) (v : V) (ns : List Str) (ts : List Tab) (q : Tab) (tr : Tr) (l : As), vs = [.ref th, .ref cp, v, .ref d] ∧ ThAt K H th ns ts ∧ TabAt K H cp q ∧ TOk q ∧ q.1.length ≤ 5 ∧ Dp K H v (trD tr) ∧ dep tr ≤ k ∧ TsOk ts ∧ ns.length ≤ 20 ∧ H d = some (.dK (asV l)) ∧ (l.map (·.1)).Nodup ∧ l.length + k ≤ 100 ∧ ∀ H', Same H H' → Q (.bl (Rt ns ts q tr (lk l))) H'
set_option maxHeartbeats 2000000 in
theorem ok_rows_show {f : Addr} {fd : FuncData} (F : Fun K "_law_rows_show" "_law_rows_show" s__law_rows_show f fd) (m_isinstance : mg "isinstance" = none) (m_int : mg "int" = none) (m_len : mg "len" = none) (m_range : mg "range" = none) (C__law_can_hold : Cal P w K mg base "_law_can_hold" 1 ["_law_table_here", "_law_decided"] (spLCan K))
    (gS : mg "_law_rows_show" = some (.ref f)) (kS : PySem.W.keepIn K (.ref f) = true) (bS : Binds K fd ["_law_theory", "_law_constraint", "_law_tree", "_law_decided"] []) : ∀ k : Nat, FnOk P w K mg base CX0 (k + 1) f fd ["_law_theory", "_law_constraint", "_law_tree", "_law_decided"] (spRowsShow K k)
  | 0 => F.ok sc__law_rows_show (fun vs H Q E h => h.elim) (fun cdv A outer s H vs Q E hr h => h.elim)
  | k + 1 => by
    have C__law_rows_show : Cal P w K mg base "_law_rows_show" (k + 1) ["_law_theory", "_law_constraint", "_law_tree", "_law_decided"] (spRowsShow K k) := ⟨_, _, ok_rows_show F m_isinstance m_int m_len m_range C__law_can_hold gS kS bS k, gS, kS, bS⟩
    refine F.ok sc__law_rows_show (fun vs H Q E h => ?_) (fun cdv A outer s H vs Q E hr h => ?_)
    · obtain ⟨th, cp, d, v, ns, ts, q, tr, l, rfl, _⟩ := h
      rfl
    · obtain ⟨th, cp, d, v, ns, ts, q, tr, l, rfl, hth, hq, qok, ql, htr, dk, tok, nl, hd, nd, ll, q0⟩ := h
      have hu := hu_of hr
      obtain ⟨na, ta, us, h1, h2, h3, h4⟩ := id hth
      refine ⟨_, (pss_cons (ps_if (pt_val (pe_callB (id := "isinstance") call_isi (by rfl) m_isinstance (by decide +kernel) (pa_cons (pv 2) (pa_cons (pe_bltn (v := .ty "int") (by rfl) m_int (by decide +kernel) rfl) pa_nil))))
      (pss_cons (ps_if (pt_cmpR op_eq (pv 2) (pe_un un_neg pe_int) (nomark _))
      (pss_one (ps_ret (pe_and (pe_cmpR op_eq (pe_callB call_len_seq (by rfl) m_len PySem.boot_len (pa_cons (pe_lc (own := [("_law_n", 7)]) rfl sc__law_rows_show.nd (pi_tup (pe_ix ix_tup (pv 1) pe_int (fun _ _ => rfl))) (blkOk_by (N := n__law_rows_show) (sc := defScope s__law_rows_show) (by decide +kernel)) (fun _ _ _ _ _ => pg_name (i := 7) sc__law_rows_show.nd rfl (Or.inl rfl)) (fun _ _ _ _ _ => pts_one (pt_cmp (pc_dnotin hu (pv 7) (pv 3)))) (fun _ _ _ _ _ => (pv 7))) pa_nil)) pe_int (nomark _)) (pe_one (pe_cal C__law_can_hold (hr.mono (by omega)) (pa_cons (pv 1) (pa_cons (pv 3) pa_nil)))))))
      pss_nil)
    (pss_one (ps_ret (pe_and (pe_chain op_le op_lt pe_int (pv 2) (pe_callB call_len_seq (by rfl) m_len PySem.boot_len (pa_cons (pe_ix ix_tup (pv 0) pe_int (fun _ _ => rfl)) pa_nil))) (pe_one (pe_not (pe_cal C__law_can_hold (hr.mono (by omega)) (pa_cons (pe_ix ix_tup (pe_ix ix_tup (pv 0) pe_int (fun _ _ => rfl)) (pv 2) (fun _ _ => rfl)) (pa_cons (pv 3) pa_nil)))))))))
      pss_nil)
    (pss_cons (ps_if (PW.pt (pw_or (pt_cmpR op_notIn_seq (pe_ix ix_tup (pv 2) pe_int (fun _ _ => rfl)) (pe_ix ix_tup (pv 0) pe_int (fun _ _ => rfl)) (by rfl)) (pw_or1 (pt_cmp (pc_din hu (pe_ix ix_tup (pv 2) pe_int (fun _ _ => rfl)) (pv 3))))))
      (pss_one (ps_ret pe_bl))
      pss_nil)
    (pss_cons (ps_for PassesOwn.never rfl (pi_range1 (by rfl) m_range (pa_cons pe_int pa_nil)) (pg_name (i := 4) sc__law_rows_show.nd rfl (Or.inl rfl))
      (pss_cons (ps_set (i := 5) sc__law_rows_show.nd rfl (Or.inl rfl) (pe_disp (pps_cons (pe_ix ix_tup (pv 2) pe_int (fun _ _ => rfl)) (pv 4) pps_nil) (by rfl) (by rfl) (by simp) (by decide)))
    (pss_cons (ps_lock (ps_for PassesOwn.never rfl (pi_keys (pv 3)) (pg_name (i := 6) sc__law_rows_show.nd rfl (Or.inl rfl))
      (pss_one (ps_dput hu (pv 5) (pv 6) (pe_dget hu (pv 3) (pv 6) (fun _ _ => rfl)) rfl))))
    (pss_one (ps_if (pt_not (pt_val (pe_cal C__law_rows_show (hr.mono (by omega)) (pa_cons (pv 0) (pa_cons (pv 1) (pa_cons (pe_ix ix_tup (pv 2) (pe_op op_add (pv 4) pe_int) (fun _ _ => rfl)) (pa_cons (pv 5) pa_nil)))))))
      (pss_one (ps_ret pe_bl))
      pss_nil)))))
    (pss_one (ps_ret pe_bl))))), ?_⟩
      walk_at "rd"
      cases tr with
      | leaf i =>
        obtain rfl := tr_leaf htr
        refine ⟨_, _, _, _, true, rfl, .ty "int", .base (.int _), kit_ty (by decide +kernel), ?_⟩
        walk_at "rd"
        refine ite2 (fun m => ?_) (fun m => ?_)
        · have e1 : i = -1 := int_t m
          subst e1
          obtain ⟨a1, b1, us1, t1, t2, t3, t4⟩ := id hq
          walk_at "rd"
          tm_at "ix 0"
          refine ⟨⟨_, t2.sq⟩, fun D nD => ?_⟩
          refine Go.lc_rel walk_tup q.1 (fun z => !(lk l z).isSome) (fun _ _ _ => True) (by rw [List.length_map]) (by rw [List.length_map]; omega) nD (fun _ _ _ _ _ h => h) (fun _ _ _ _ _ _ h => h) (fun H' s => (PlT.same s t2).sq) Go.yat ?_ ?_
          · rintro j z y H2a H2 hz s2 ⟨rfl, hy⟩ Z Z' hZ hZ'
            rw [List.getElem?_map, hz] at hy
            cases hy
            refine ⟨rfl, ?_⟩
            walk_at "rd"
            refine ⟨_, _, rfl, DGet.k (k := .inr z) (s2 _ _ hd), ?_⟩
            rw [val_as, Option.isSome_map]
            refine ⟨_, rfl, ite2 (fun c => ?_) (fun c => ?_)⟩
            · walk_at "rd"
              exact hZ _ _ c (Same.refl _) trivial
            · exact hZ' _ (Bool.eq_false_iff.mpr c) (Same.refl _)
          · rintro H2 ws s2 hW hws
            have wl := hws.len
            have we : decide (ws.length = 0) = q.1.all fun z => (lk l z).isSome := by
              rw [wl, ← filter_none_len]
            walk_at "rd"
            tm_at "len"
            have eR := shown_can (g := lk l) qok
            have z := fun H' (s : Same H2 H') => q0 H' (s2.trans s)
            rw [show Rt ns ts q (.leaf (-1)) (lk l) = shownG q (lk l) from by unfold Rt; rw [if_pos rfl], eR, ← we] at z
            refine ite2 (fun c => ?_) (fun c => ?_)
            · have c1 := int_t c
              rw [decide_eq_true (by omega), Bool.true_and] at z
              walk_at "rd"
              show spLCan K _ _ _ _
              unfold spLCan
              exact ⟨cp, d, q, l, rfl, hq.same s2, qok, ql, s2 _ _ hd, fun H3 s3 => z H3 s3⟩
            · have c1 := int_f c
              rw [decide_eq_false (by omega), Bool.false_and] at z
              exact z H2 (Same.refl _)
        · have e1 : i ≠ -1 := int_f m
          have eR : Rt ns ts q (.leaf i) (lk l) = (decide (0 ≤ i) && decide (i < (ts.length : Nat)) && !canG (ts.getD i.toNat ([], [])) (lk l)) := by
            unfold Rt
            rw [if_neg e1]
          rw [eR] at q0
          walk_at "rd"
          refine ite2 (fun c0 => ?_) (fun c0 => ?_)
          · rw [c0, Bool.true_and] at q0
            have i0 := of_decide_eq_true c0
            walk_at "rd"
            tm_at "ix 1"
            refine ⟨_, _, rfl, .inr h3, ?_⟩
            rw [h4.len]
            walk_at "rd"
            refine ite2 (fun c1 => ?_) (fun c1 => ?_)
            · rw [c1, Bool.true_and] at q0
              have i1 := of_decide_eq_true c1
              obtain ⟨j, rfl⟩ : ∃ j : Nat, i = (j : Int) := ⟨i.toNat, by omega⟩
              have lj : j < ts.length := by omega
              have et := List.getElem?_eq_getElem lj
              obtain ⟨u, hu, p, rfl, hp⟩ := h4.at' et
              rw [Int.toNat_natCast, List.getD_eq_getElem?_getD, et] at q0
              obtain ⟨ok, l5⟩ := tok.ok _ (List.mem_of_getElem? et)
              walk_at "rd"
              tm_at "ix 1"
              refine ⟨_, _, _, _, rfl, rfl, h3, atI_nat hu, ?_⟩
              walk_at "rd"
              show spLCan K _ _ _ _
              unfold spLCan
              refine ⟨p, d, _, l, rfl, hp, ok, l5, hd, fun H1 s1 => ?_⟩
              walk_at "rd"
              exact q0 H1 s1
            · rw [Bool.eq_false_iff.mpr c1, Bool.false_and] at q0
              exact q0 H (Same.refl H)
          · rw [Bool.eq_false_iff.mpr c0, Bool.false_and, Bool.false_and] at q0
            walk_at "rd"
            exact q0 H (Same.refl H)
      | node sn a b c =>
        obtain ⟨p, va, vb, vc, rfl, hp, ha, hb, hc⟩ := tr_node htr
        refine ⟨_, _, _, _, false, rfl, .ty "int", ty_tup hp, kit_ty (by decide +kernel), ?_⟩
        walk_at "rd"
        tm_at "ix 0"
        have keyn : (lk l sn).isNone = decide (sn ∉ l.map (·.1)) := by
          rw [Bool.eq_iff_iff, Option.isNone_iff_eq_none, lk_none, decide_eq_true_iff]
        have eR : Rt ns ts q (.node sn a b c) (lk l) = (decide (sn ∈ ns) && (lk l sn).isNone && (Rt ns ts q a (setG (lk l) sn 0) && (Rt ns ts q b (setG (lk l) sn 1) && Rt ns ts q c (setG (lk l) sn 2)))) := rfl
        have dk2 : 1 + max (dep a) (max (dep b) (dep c)) ≤ k := dk
        obtain ⟨k, rfl⟩ : ∃ j, k = j + 1 := ⟨k - 1, by omega⟩
        tm_at "ix 0"
        refine ⟨_, _, rfl, .inr h2, rfl, flat_all _, ?_⟩
        rw [inV_str]
        by_cases c1 : sn ∈ ns
        · rw [decide_eq_true c1]
          rw [eR, decide_eq_true c1, Bool.true_and] at q0
          walk_at "rd"
          tm_at "ix 0"
          refine ⟨_, _, rfl, DGet.k (k := .inr sn) hd, ?_⟩
          rw [val_as, Option.isSome_map]
          by_cases c2 : sn ∈ l.map (·.1)
          · rw [keyn, decide_eq_false (fun h => h c2), Bool.false_and] at q0
            have c3 : (lk l sn).isSome = true := by
              rw [← Option.not_isNone, keyn, decide_eq_false (fun h => h c2)]
              rfl
            rw [c3]
            walk_at "rd"
            exact q0 H (Same.refl H)
          · rw [keyn, decide_eq_true c2, Bool.true_and] at q0
            have c3 : (lk l sn).isSome = false := by
              rw [← Option.not_isNone, keyn, decide_eq_true c2]
              rfl
            rw [c3]
            have each : ∀ (j : Nat), j < 3 → ∃ y t, [V.str sn, va, vb, vc][j + 1]? = some y ∧ Dp K H y (trD t) ∧ dep t ≤ k ∧ [a, b, c][j]? = some t := fun j h => by
              match j, h with
              | 0, h => exact ⟨va, a, rfl, ha, by show dep a ≤ k; omega, rfl⟩
              | 1, h => exact ⟨vb, b, rfl, hb, by show dep b ≤ k; omega, rfl⟩
              | 2, h => exact ⟨vc, c, rfl, hc, by show dep c ≤ k; omega, rfl⟩
            walk_at "rd"
            refine ⟨by decide, by decide, for_it walk_range (fun i σ H' => ∃ o4 o5 o6 : Option V, σ = [some (.ref th), some (.ref cp), some (.ref p), some (.ref d), o4, o5, o6, none] ∧ Same H H' ∧ ∀ j t, j < i → [a, b, c][j]? = some t → Rt ns ts q t (setG (lk l) sn (j : Int)) = true) ⟨none, none, none, rfl, Same.refl H, fun j t h => absurd h (Nat.not_lt_zero j)⟩ (fun _ _ _ _ _ => trivial) ?_ ?_⟩
            · rintro i x σ H1a H1 hi ⟨o4, o5, o6, rfl, s1, al⟩ ⟨rfl, rfl⟩
              have hi3 : i < 3 := hi
              obtain ⟨y, t, e1, dy, ly, e2⟩ := each i hi3
              walk_at "rd"
              refine fun m nm => ?_
              have dm : d ≠ m := fun e => by rw [← e, s1 _ _ hd] at nm; cases nm
              have sm := same_new nm (o := .dK [])
              have hm0 := upd_same (H := H1) (a := m) (o := .dK [])
              generalize upd H1 m (.dK []) = H2 at sm hm0 ⊢
              have s2 := s1.trans sm
              walk_at "rd"
              tm_at "ix 0"
              refine ⟨hm0, [(.inr sn, .int (0 + (i : Int)))], rfl, (show 1 ≤ 15 by decide), ?_⟩
              have eM : mergeK [] [((.inr sn : Key), V.int (0 + (i : Int)))] = asV ((sn, (i : Int)) :: l.take 0) := by
                rw [Int.zero_add]
                rfl
              rw [eM]
              clear eM
              have hm2 := upd_same (H := H2) (a := m) (o := .dK (asV ((sn, (i : Int)) :: l.take 0)))
              have sM : Same H1 (upd H2 m (.dK (asV ((sn, (i : Int)) :: l.take 0)))) := same_at nm sm
              generalize upd H2 m (.dK (asV ((sn, (i : Int)) :: l.take 0))) = H3 at hm2 sM ⊢
              have s3 := s1.trans sM
              have hd3 := s3 _ _ hd
              walk_at "rd"
              refine ⟨d, .dK (asV l), hd3, trivial, fun od => ?_⟩
              walk_at "rd"
              refine ⟨d, od, rfl, .inl ⟨asV l, upd_same, ?_⟩⟩
              have al2 : (asV l).length = l.length := List.length_map _
              refine for_it walk_keys (fun j σ H' => ∃ o6 : Option V, σ = [some (.ref th), some (.ref cp), some (.ref p), some (.ref d), some (.int (0 + (i : Int))), some (.ref m), o6, none] ∧ H' d = some (.frz od (.dK (asV l))) ∧ H' m = some (.dK (asV ((sn, (i : Int)) :: l.take j))) ∧ ∀ b, b ≠ m → b ≠ d → H' b = H3 b) ⟨o6, rfl, upd_same, by rw [upd_ne (Ne.symm dm)]; exact hm2, fun b h1 h2 => upd_ne h2⟩ (fun j σ H' _ ⟨_, _, h, _⟩ => h) ?_ ?_
              · rintro j x σ H4 H4' hj ⟨o6, rfl, hd4, hm4, ot⟩ ⟨rfl, kk, yy, hk, rfl⟩
                have hk2 : (l[j]?).map (fun p => ((.inr p.1 : Key), V.int p.2)) = some (kk, yy) := by
                  rw [← List.getElem?_map]
                  exact hk
                obtain ⟨e, he, ee⟩ := Option.map_eq_some_iff.mp hk2
                cases ee
                walk_at "rd"
                refine ⟨d, .int e.2, rfl, .inl ⟨asV l, .inr e.1, .inr ⟨od, hd4⟩, rfl, ?_⟩, ?_⟩
                · rw [val_at_as nd he]
                walk_at "rd"
                have tl1 : (asV ((sn, (i : Int)) :: l.take j)).length ≤ l.length + 1 := by
                  show (List.map _ ((sn, (i : Int)) :: l.take j)).length ≤ _
                  rw [List.length_map, List.length_cons]
                  have := List.length_take_le' j l
                  omega
                refine ⟨m, _, rfl, DPut.k (k := .inr e.1) hm4 (szl (by omega)), ?_⟩
                rw [more_put nd c2 he]
                exact ⟨_, rfl, by rw [upd_ne dm]; exact hd4, upd_same, fun b h1 h2 => by rw [upd_ne h1]; exact ot b h1 h2⟩
              · rintro σ H4 ⟨o6, rfl, hd4, hm4, ot⟩
                rw [al2, List.take_length] at hm4
                walk_at "rd"
                refine ⟨hd4, ?_⟩
                walk_at "rd"
                have hm5 : (upd H4 d (.dK (asV l))) m = some (.dK (asV ((sn, (i : Int)) :: l))) := by rw [upd_ne (Ne.symm dm)]; exact hm4
                have s5 : Same H1 (upd H4 d (.dK (asV l))) := fun b o hb => by
                  by_cases bd : b = d
                  · rw [bd, upd_same, ← s1 _ _ hd, ← bd]
                    exact hb
                  · have bm : b ≠ m := fun e => by rw [e, nm] at hb; cases hb
                    rw [upd_ne bd, ot b bm bd]
                    exact sM _ _ hb
                generalize upd H4 d (.dK (asV l)) = H5 at hm5 s5 ⊢
                have s05 := s1.trans s5
                have ei : (0 + (i : Int)) + 1 = ((i + 1 : Nat) : Int) := by omega
                refine ⟨_, _, _, _, rfl, rfl, Bx.Same.tup s05 hp, (by rw [ei]; exact atI_nat e1), ?_⟩
                walk_at "rd"
                refine ⟨th, cp, m, y, ns, ts, q, t, (sn, (i : Int)) :: l, rfl, hth.same s05, hq.same s05, qok, ql, dp_same s05 dy, ly, tok, nl, hm5, ?_, by rw [List.length_cons]; omega, fun H6 s6 => ?_⟩
                · exact List.nodup_cons.mpr ⟨c2, nd⟩
                rw [lk_cons]
                have s06 := s05.trans s6
                walk_at "rd"
                cases cT : Rt ns ts q t (setG (lk l) sn (i : Int)) with
                | true =>
                  refine ite2 (fun h => (nomatch h)) (fun _ => ?_)
                  walk_at "rd"
                  refine ⟨_, _, _, rfl, s06, fun j t' hj ht => ?_⟩
                  by_cases e : j = i
                  · subst e
                    rw [e2] at ht
                    cases ht
                    exact cT
                  · exact al j t' (by omega) ht
                | false =>
                  walk_at "rd"
                  have z := q0 H6 s06
                  have fz : (Rt ns ts q a (setG (lk l) sn 0) && (Rt ns ts q b (setG (lk l) sn 1) && Rt ns ts q c (setG (lk l) sn 2))) = false := by
                    match i, hi3, e2, cT with
                    | 0, _, e2, cT => cases e2; rw [show Rt ns ts q a (setG (lk l) sn 0) = false from cT, Bool.false_and]
                    | 1, _, e2, cT => cases e2; rw [show Rt ns ts q b (setG (lk l) sn 1) = false from cT, Bool.false_and, Bool.and_false]
                    | 2, _, e2, cT => cases e2; rw [show Rt ns ts q c (setG (lk l) sn 2) = false from cT, Bool.and_false, Bool.and_false]
                  rw [fz] at z
                  exact z
            · rintro σ H1 ⟨o4, o5, o6, rfl, s1, al⟩
              walk_at "rd"
              have z := q0 H1 s1
              rw [show Rt ns ts q a (setG (lk l) sn 0) = true from al 0 a (by decide) rfl, show Rt ns ts q b (setG (lk l) sn 1) = true from al 1 b (by decide) rfl, show Rt ns ts q c (setG (lk l) sn 2) = true from al 2 c (by decide) rfl] at z
              exact z
        · rw [decide_eq_false c1]
          rw [eR, decide_eq_false c1, Bool.false_and, Bool.false_and] at q0
          walk_at "rd"
          exact q0 H (Same.refl H)
end
end K21
namespace K21
open Go (tupD tupAll Tk tk_same Tk.trans tk_lst dp_tk da_tk All2)
open PySem PySem.Spec PyProof.Rows L2 Bx TL Dx Zx Ow Sup NdefX Px
local macro_rules | `(tactic| walk_at "rd") => `(tactic| repeat (first | refine ⟨rfl, ?_⟩ | refine ⟨_, rfl, ?_⟩ | refine ⟨_, _, rfl, rfl, ?_⟩ | refine ⟨⟨_, rfl⟩, ?_⟩))
local macro_rules
  | `(tactic| tm_at $s:str) => do
    let id (x : String) := Lean.mkIdent (Lean.Name.mkSimple x)
    match s.getString.splitOn " " with
    | ["rd"] => `(tactic| walk_at "rd")
    | ["sz"] => `(tactic| first | exact sz (by decide) | exact szl (by decide) | exact sz (by show _ ≤ 100000; decide) | ((first | refine sz ?_ | refine szl ?_); (try simp only [List.length_map, List.length_append, List.length_cons, List.length_nil, List.length_take, List.length_drop]); omega) | fail "sz: no bound")
    | ["gn", p, h] => `(tactic| (generalize hu : upd _ $(id p) _ = $(id ("H" ++ p)); obtain ⟨$(id ("s" ++ p)), $(id h)⟩ := Go.al $(id ("n" ++ p)) hu; clear hu))
    | ["al", p] => `(tactic| (refine ⟨by tm_at "sz", fun $(id p) $(id ("n" ++ p)) => ?_⟩; generalize hu : upd _ $(id p) _ = $(id ("H" ++ p)); obtain ⟨$(id ("s" ++ p)), $(id ("h" ++ p))⟩ := Go.al $(id ("n" ++ p)) hu; clear hu; tm_at "rd"))
    | ["al0", p] => `(tactic| (refine ⟨by tm_at "sz", fun $(id p) $(id ("n" ++ p)) => ?_⟩; generalize hu : upd _ $(id p) _ = $(id ("H" ++ p)); obtain ⟨$(id ("s" ++ p)), $(id ("h" ++ p))⟩ := Go.al $(id ("n" ++ p)) hu; clear hu; tm_at "rd"))
    | ["new", p] => `(tactic| (refine fun $(id p) $(id ("n" ++ p)) => ?_; generalize hu : upd _ $(id p) _ = $(id ("H" ++ p)); obtain ⟨$(id ("s" ++ p)), $(id ("h" ++ p))⟩ := Go.al $(id ("n" ++ p)) hu; clear hu; tm_at "rd"))
    | ["new0", p] => `(tactic| (refine fun $(id p) $(id ("n" ++ p)) => ?_; generalize hu : upd _ $(id p) _ = $(id ("H" ++ p)); obtain ⟨$(id ("s" ++ p)), $(id ("h" ++ p))⟩ := Go.al $(id ("n" ++ p)) hu; clear hu; tm_at "rd"))
    | ["up"] => `(tactic| first
        | assumption | exact sq (by assumption) | exact sqt (by assumption) | exact PlT.sq (by assumption)
        | (refine' Bx.Same.tup (by assumption) ?hh; (case hh => tm_at "up")) | (refine' Same.seq (by assumption) ?hh; (case hh => tm_at "up")) | (refine' Go.get (by assumption) ?hh; (case hh => tm_at "up")) | (refine' dpAll_same (by assumption) ?hh; (case hh => tm_at "up")) | (refine' dp_same (by assumption) ?hh; (case hh => tm_at "up")) | (refine' PlT.same (by assumption) ?hh; (case hh => tm_at "up")) | (refine' Go.srcS (by assumption) ?hh; (case hh => tm_at "up"))
        | (refine' Go.tupB (s := _) (by assumption) (by assumption) ?hh; (case hh => tm_at "up")) | (refine' Go.dkB (s := _) (by assumption) (by assumption) ?hh; (case hh => tm_at "up")) | (refine' Go.insB (s := _) (by assumption) (by assumption) ?hh; (case hh => tm_at "up")) | (refine' Go.pltB (s := _) (by assumption) (by assumption) ?hh; (case hh => tm_at "up"))
        | (refine' Go.getB (by assumption) (by first | assumption | exact Ne.symm (by assumption)) ?hh; (case hh => tm_at "up"))
        | (refine' sq ?hh; (case hh => tm_at "raw")) | (refine' sqt ?hh; (case hh => tm_at "raw")) | (refine' PlT.sq ?hh; (case hh => tm_at "raw")) | fail "up: no fact")
    | ["raw"] => `(tactic| first
        | assumption | (refine' Go.get (by assumption) ?hh; (case hh => tm_at "raw")) | (refine' PlT.same (by assumption) ?hh; (case hh => tm_at "raw")) | (refine' Go.pltB (s := _) (by assumption) (by assumption) ?hh; (case hh => tm_at "raw")) | (refine' Go.getB (by assumption) (by first | assumption | exact Ne.symm (by assumption)) ?hh; (case hh => tm_at "raw")) | fail "raw: no fact")
    | ["sq"] => `(tactic| first | exact .inl (by tm_at "up") | exact .inr (by tm_at "up") | fail "sq: no fact")
    | ["ix", j] => `(tactic| (refine ⟨_, _, _, _, rfl, rfl, by tm_at "up", by exact atI_nat (j := $(Lean.Syntax.mkNumLit j)) rfl, ?_⟩; tm_at "rd"))
    | ["ixh", h] => `(tactic| (refine ⟨_, _, _, _, rfl, rfl, by tm_at "up", by first | exact Go.at_mapV $(id h) | exact Go.at_mapZ $(id h) | exact atI_nat $(id h) | exact Go.at_nat0 $(id h), ?_⟩; tm_at "rd"))
    | ["len"] => `(tactic| (refine ⟨_, _, rfl, by tm_at "sq", ?_⟩; (try rw [List.length_map]); tm_at "rd"))
    | ["tp", p] => `(tactic| (refine ⟨_, _, rfl, .inl ⟨by tm_at "up", fun $(id p) $(id ("n" ++ p)) => ?_⟩⟩; generalize hu : upd _ $(id p) _ = $(id ("H" ++ p)); obtain ⟨$(id ("s" ++ p)), $(id ("h" ++ p))⟩ := Go.al $(id ("n" ++ p)) hu; clear hu; tm_at "rd"))
    | ["tp0", p] => `(tactic| (refine ⟨_, _, rfl, .inl ⟨by tm_at "up", fun $(id p) $(id ("n" ++ p)) => ?_⟩⟩; generalize hu : upd _ $(id p) _ = $(id ("H" ++ p)); obtain ⟨$(id ("s" ++ p)), $(id ("h" ++ p))⟩ := Go.al $(id ("n" ++ p)) hu; clear hu; tm_at "rd"))
    | ["ls", p] => `(tactic| (refine ⟨_, _, rfl, by tm_at "sq", fun $(id p) $(id ("n" ++ p)) => ?_⟩; generalize hu : upd _ $(id p) _ = $(id ("H" ++ p)); obtain ⟨$(id ("s" ++ p)), $(id ("h" ++ p))⟩ := Go.al $(id ("n" ++ p)) hu; clear hu; tm_at "rd"))
    | ["ls0", p] => `(tactic| (refine ⟨_, _, rfl, by tm_at "sq", fun $(id p) $(id ("n" ++ p)) => ?_⟩; generalize hu : upd _ $(id p) _ = $(id ("H" ++ p)); obtain ⟨$(id ("s" ++ p)), $(id ("h" ++ p))⟩ := Go.al $(id ("n" ++ p)) hu; clear hu; tm_at "rd"))
    | ["tf", p] => `(tactic| (refine ⟨_, _, rfl, by tm_at "up", fun $(id p) $(id ("o" ++ p)) $(id ("n" ++ p)) $(id ("d" ++ p)) => ?_⟩; generalize hu : upd _ $(id p) _ = $(id ("H" ++ p)); obtain ⟨$(id ("s" ++ p)), $(id ("h" ++ p))⟩ := Go.alF $(id ("n" ++ p)) $(id ("d" ++ p)) hu; clear hu; tm_at "rd"))
    | ["alF", p] => `(tactic| (refine ⟨by tm_at "sz", fun $(id p) $(id ("o" ++ p)) $(id ("n" ++ p)) $(id ("d" ++ p)) => ?_⟩; generalize hu : upd _ $(id p) _ = $(id ("H" ++ p)); obtain ⟨$(id ("s" ++ p)), $(id ("h" ++ p))⟩ := Go.alF $(id ("n" ++ p)) $(id ("d" ++ p)) hu; clear hu; tm_at "rd"))
    | ["bare", k] => `(tactic| (refine fun $(id k) $(id ("d" ++ k)) $(id ("n" ++ k)) $(id ("nd" ++ k)) $(id ("ne" ++ k)) => ?_; generalize hu : upd (upd _ $(id ("d" ++ k)) _) $(id k) _ = $(id ("H" ++ k)); obtain ⟨$(id ("s" ++ k)), $(id ("h" ++ k))⟩ := Go.bare $(id ("n" ++ k)) $(id ("nd" ++ k)) $(id ("ne" ++ k)) hu; clear hu; walk_at "rd"))
    | ["me"] => `(tactic| (refine ⟨_, _, _, rfl, by tm_at "up", rfl, ?_⟩; walk_at "rd"))
    | ["star"] => `(tactic| ((first | refine ⟨_, _, rfl, .inl (by tm_at "up"), ?_⟩ | refine ⟨_, _, rfl, .inr (by tm_at "up"), ?_⟩ | fail "star"); walk_at "rd"))
    | ["ap0"] => `(tactic| (refine ⟨.inl ⟨rfl, _, by tm_at "up"⟩, ?_⟩; tm_at "rd"))
    | ["ap"] => `(tactic| refine ⟨_, _, _, rfl, rfl, by tm_at "up", by tm_at "sz", ?_⟩)
    | ["un", n] => match n with
      | "2" => `(tactic| (refine ⟨_, _, rfl, by tm_at "up", rfl, _, _, rfl, _, _, rfl, rfl, ?_⟩; tm_at "rd"))
      | _ => `(tactic| (refine ⟨_, _, rfl, by tm_at "up", rfl, _, _, rfl, _, _, rfl, _, _, rfl, rfl, ?_⟩; tm_at "rd"))
    | _ => Lean.Macro.throwUnsupported
def psD (x : Int × Str) : PyData := .tuple [.int x.1, .str x.2]
theorem lay_ps {x : Int × Str} (h : PyData.strOk x.2 = true) : Lay 3 (psD x) := lay_tuple (n := 2) (lays_cons (lays_mem (lays_ints (ns := [x.1])) _ (List.mem_cons_self ..)) (lays_cons (lays_mem (lays_strs (ns := [x.2]) (fun s hs => by rw [List.mem_singleton.mp hs]; exact h)) _ (List.mem_cons_self ..)) lays_nil))
theorem lays_ps {xs : List (Int × Str)} (h : ∀ x ∈ xs, PyData.strOk x.2 = true) : Lays 3 (xs.map psD) := lays_of fun d hd => by
  obtain ⟨x, hx, rfl⟩ := List.mem_map.mp hd
  exact lay_ps (h x hx)
theorem alike_ps (xs : List (Int × Str)) : PySem.W.AlikeAll (xs.map psD) := ⟨fun a ha b hb => by
  obtain ⟨x, _, rfl⟩ := List.mem_map.mp ha
  obtain ⟨y, _, rfl⟩ := List.mem_map.mp hb
  rfl, fun a ha => by
  obtain ⟨x, _, rfl⟩ := List.mem_map.mp ha
  exact fun e => nomatch e⟩
theorem tup_ps : ∀ xs : List (Int × Str), tupAll (xs.map psD) = true := Go.tupAll_map fun _ => rfl
theorem dp_ps {K : PySem.W.Frag} {H : Hp} {v : V} {x : Int × Str} (h : Dp K H v (psD x)) : ∃ p, v = .ref p ∧ SqT K H p [.int x.1, .str x.2] := by
  obtain ⟨p, xs, rfl, hp, ha⟩ := dp_tup h
  cases ha with
  | cons h0 h1 =>
    cases h1 with
    | cons h1 h2 =>
      cases h2
      rw [dp_int h0, dp_str h1] at hp
      exact ⟨p, rfl, hp⟩
theorem eqv_nilL {α : Type} {f : α → PyData} (l : List α) : PyData.eqv (.list (l.map f)) (.list []) = l.isEmpty := by cases l <;> rfl
def isLeaf : Tr → Bool
  | .leaf _ => true
  | .node _ _ _ _ => false
section
variable {P : Program} {w : World} {K : PySem.W.Frag} {mg : Str → Option Value} {base : Heap}
@[irreducible] def spIsInt (K : PySem.W.Frag) : Sp := fun vs H Q _ => ∃ (v : V) (tr : Tr), vs = [v] ∧ Dp K H v (trD tr) ∧ Q (.bl (isLeaf tr)) H
theorem ok_is_int {f : Addr} {fd : FuncData} (F : Fun K "_law_is_int" "_law_is_int" s__law_is_int f fd) (m_isinstance : mg "isinstance" = none) (m_int : mg "int" = none) (m_bool : mg "bool" = none) : FnOk P w K mg base CX0 1 f fd ["_law_value"] (spIsInt K) := by
  refine F.ok sc__law_is_int (fun vs H Q E h => ?_) (fun cdv A outer s H vs Q E hr h => ?_)
  · unfold spIsInt at h
    obtain ⟨v, tr, rfl, _⟩ := h
    rfl
  · unfold spIsInt at h
    obtain ⟨v, tr, rfl, hv, q⟩ := h
    refine ⟨_, (pss_one (ps_ret (pe_and (pe_callB (id := "isinstance") call_isi (by rfl) m_isinstance (by decide +kernel) (pa_cons (pv 0) (pa_cons (pe_bltn (v := .ty "int") (by rfl) m_int (by decide +kernel) rfl) pa_nil))) (pe_one (pe_not (pe_callB (id := "isinstance") call_isi (by rfl) m_isinstance (by decide +kernel) (pa_cons (pv 0) (pa_cons (pe_bltn (v := .ty "bool") (by rfl) m_bool (by decide +kernel) rfl) pa_nil)))))))), ?_⟩
    walk_at "rd"
    cases tr with
    | leaf i =>
      obtain rfl := tr_leaf hv
      refine ⟨_, _, _, _, true, rfl, .ty "int", .base (.int _), kit_ty (by decide +kernel), ?_⟩
      walk_at "rd"
      refine ⟨_, _, _, _, false, rfl, .ty "bool", .base (.int _), kit_ty (by decide +kernel), ?_⟩
      walk_at "rd"
      exact q
    | node sn a b c =>
      obtain ⟨p, va, vb, vc, rfl, hp, ha, hb, hc⟩ := tr_node hv
      refine ⟨_, _, _, _, false, rfl, .ty "int", ty_tup hp, kit_ty (by decide +kernel), ?_⟩
      walk_at "rd"
      exact q
def spIsTree (K : PySem.W.Frag) : Nat → Sp
  | 0 => fun _ _ _ _ => False
  | k + 1 => fun vs H Q _ => ∃ (v : V) (tr : Tr) (m : Nat), vs = [v, .int (m : Int)] ∧ Dp K H v (trD tr) ∧ dep tr ≤ m ∧ m ≤ k ∧ ∀ H', Same H H' → Q (.bl true) H'
set_option maxHeartbeats 1000000 in
theorem ok_is_tree {f : Addr} {fd : FuncData} (F : Fun K "_law_is_tree" "_law_is_tree" s__law_is_tree f fd) (m_isinstance : mg "isinstance" = none) (m_tuple : mg "tuple" = none) (m_str : mg "str" = none) (m_len : mg "len" = none) (m_range : mg "range" = none) (C__law_is_int : Cal P w K mg base "_law_is_int" 1 ["_law_value"] (spIsInt K))
    (gS : mg "_law_is_tree" = some (.ref f)) (kS : PySem.W.keepIn K (.ref f) = true) (bS : Binds K fd ["_law_tree", "_law_depth"] []) : ∀ k : Nat, FnOk P w K mg base CX0 (k + 1) f fd ["_law_tree", "_law_depth"] (spIsTree K k)
  | 0 => F.ok sc__law_is_tree (fun vs H Q E h => h.elim) (fun cdv A outer s H vs Q E hr h => h.elim)
  | k + 1 => by
    have C__law_is_tree : Cal P w K mg base "_law_is_tree" (k + 1) ["_law_tree", "_law_depth"] (spIsTree K k) := ⟨_, _, ok_is_tree F m_isinstance m_tuple m_str m_len m_range C__law_is_int gS kS bS k, gS, kS, bS⟩
    refine F.ok sc__law_is_tree (fun vs H Q E h => ?_) (fun cdv A outer s H vs Q E hr h => ?_)
    · obtain ⟨v, tr, m, rfl, _⟩ := h
      rfl
    · obtain ⟨v, tr, m, rfl, hv, dm, mk, q⟩ := h
      refine ⟨_, (pss_cons (ps_if (pt_val (pe_cal C__law_is_int (hr.mono (by omega)) (pa_cons (pv 0) pa_nil)))
      (pss_one (ps_ret pe_bl))
      pss_nil)
    (pss_cons (ps_if (PW.pt (pw_or (pt_cmpR op_eq (pv 1) pe_int (nomark _)) (pw_or (pt_not (pt_val (pe_callB (id := "isinstance") call_isi (by rfl) m_isinstance (by decide +kernel) (pa_cons (pv 0) (pa_cons (pe_bltn (v := .ty "tuple") (by rfl) m_tuple (by decide +kernel) rfl) pa_nil))))) (pw_or (pt_cmpR op_ne (pe_callB call_len_seq (by rfl) m_len PySem.boot_len (pa_cons (pv 0) pa_nil)) pe_int (nomark _)) (pw_or1 (pt_not (pt_val (pe_callB (id := "isinstance") call_isi (by rfl) m_isinstance (by decide +kernel) (pa_cons (pe_ix ix_tup (pv 0) pe_int (fun _ _ => rfl)) (pa_cons (pe_bltn (v := .ty "str") (by rfl) m_str (by decide +kernel) rfl) pa_nil))))))))))
      (pss_one (ps_ret pe_bl))
      pss_nil)
    (pss_cons (ps_for PassesOwn.never rfl (pi_range2 (by rfl) m_range (pa_cons pe_int (pa_cons pe_int pa_nil))) (pg_name (i := 2) sc__law_is_tree.nd rfl (Or.inl rfl))
      (pss_one (ps_if (pt_not (pt_val (pe_cal C__law_is_tree (hr.mono (by omega)) (pa_cons (pe_ix ix_tup (pv 0) (pv 2) (fun _ _ => rfl)) (pa_cons (pe_op op_sub (pv 1) pe_int) pa_nil)))))
      (pss_one (ps_ret pe_bl))
      pss_nil)))
    (pss_one (ps_ret pe_bl))))), ?_⟩
      walk_at "rd"
      show spIsInt K _ _ _ _
      unfold spIsInt
      refine ⟨v, tr, rfl, hv, ?_⟩
      cases tr with
      | leaf i =>
        walk_at "rd"
        exact q H (Same.refl H)
      | node sn a b c =>
        obtain ⟨p, va, vb, vc, rfl, hp, ha, hb, hc⟩ := tr_node hv
        have dk2 : 1 + max (dep a) (max (dep b) (dep c)) ≤ m := dm
        obtain ⟨k, rfl⟩ : ∃ j, k = j + 1 := ⟨k - 1, by omega⟩
        walk_at "rd"
        refine ite2 (fun h => ?_) (fun h => ?_)
        · have := int_t h
          omega
        walk_at "rd"
        refine ⟨_, _, _, _, true, rfl, .ty "tuple", ty_tup hp, kit_ty (by decide +kernel), ?_⟩
        walk_at "rd"
        tm_at "len"
        tm_at "ix 0"
        refine ⟨_, _, _, _, true, rfl, .ty "str", .base (.str _), kit_ty (by decide +kernel), ?_⟩
        walk_at "rd"
        have each : ∀ (j : Nat), j < 3 → ∃ y t, [V.str sn, va, vb, vc][j + 1]? = some y ∧ Dp K H y (trD t) ∧ dep t + 1 ≤ m := fun j h => by
          match j, h with
          | 0, h => exact ⟨va, a, rfl, ha, by omega⟩
          | 1, h => exact ⟨vb, b, rfl, hb, by omega⟩
          | 2, h => exact ⟨vc, c, rfl, hc, by omega⟩
        dsimp only [tNext]
        walk_at "rd"
        refine ⟨_, _, rfl, ⟨by decide, by decide, by decide, by decide⟩, for_it walk_range (fun i σ H' => ∃ o2 : Option V, σ = [some (.ref p), some (.int (m : Int)), o2] ∧ Same H H') ⟨none, rfl, Same.refl H⟩ (fun _ _ _ _ _ => trivial) ?_ ?_⟩
        · rintro i x σ H1a H1 hi ⟨o2, rfl, s1⟩ ⟨rfl, rfl⟩
          have hi3 : i < 3 := hi
          obtain ⟨y, t, e1, dy, ly⟩ := each i hi3
          walk_at "rd"
          refine ⟨_, _, _, _, rfl, rfl, Bx.Same.tup s1 hp, (by rw [show (1 : Int) + (i : Int) = ((i + 1 : Nat) : Int) by omega]; exact atI_nat e1), ?_⟩
          walk_at "rd"
          refine ⟨y, t, m - 1, (by show [y, V.int ((m : Int) - 1)] = [y, V.int ((m - 1 : Nat) : Int)]; rw [show ((m : Int) - 1) = ((m - 1 : Nat) : Int) by omega]), dp_same s1 dy, by omega, by omega, fun H2 s2 => ?_⟩
          walk_at "rd"
          exact s1.trans s2
        · rintro σ H1 ⟨o2, rfl, s1⟩
          walk_at "rd"
          exact q H1 s1
@[irreducible] def spNext (K : PySem.W.Frag) : Sp := fun vs H Q _ => ∃ (na ta cp : Addr) (ms : List Str) (us : List V) (ts : List Tab) (q : Tab), vs = [.ref na, .ref ta, .ref cp] ∧ SqT K H na (ms.map V.str) ∧ ms.length ≤ 20 ∧ ms ≠ [] ∧ (∀ z ∈ ms, PyData.strOk z = true) ∧ (SqL K H ta us ∨ SqT K H ta us) ∧ TAll K H us ts ∧ ts.length ≤ 100 ∧ (∀ t ∈ ts, t.1.length ≤ 5) ∧ TabAt K H cp q ∧ ∀ z H', Same H H' → z ∈ ms → Q (.str z) H'
set_option maxHeartbeats 1000000 in
theorem ok_next {f : Addr} {fd : FuncData} (F : Fun K "_next_name" "_next_name" s__next_name f fd) (m_len : mg "len" = none) (m_min : mg "min" = none) : FnOk P w K mg base CX0 1 f fd ["names", "tables", "constraint"] (spNext K) := by
  refine F.ok sc__next_name (fun vs H Q E h => ?_) (fun cdv A outer s H vs Q E hr h => ?_)
  · unfold spNext at h
    obtain ⟨na, ta, cp, ms, us, ts, q, rfl, _⟩ := h
    rfl
  · unfold spNext at h
    obtain ⟨na, ta, cp, ms, us, ts, q, rfl, hn, ml, m0, okm, ht, hts, tl, t5, hq, q0⟩ := h
    obtain ⟨a1, b1, us1, t1, t2, t3, t4⟩ := id hq
    refine ⟨_, (pss_cons (ps_setLc (i := 3) (own := [("name", 6)]) rfl sc__next_name.nd rfl rfl (sw_true rfl rfl rfl (by decide +kernel)) (pi_tup (pv 0)) (blkOk_by (N := n__next_name) (sc := defScope s__next_name) (by decide +kernel)) (fun _ _ _ _ _ => pg_name (i := 6) sc__next_name.nd rfl (Or.inl rfl)) (fun _ _ _ _ _ => pts_one (pt_cmpR (op_in_seqK (K := K) rfl) (pv 6) (pe_ix (ix_tupK (K := K) rfl) (pv 2) pe_int (fun _ _ => rfl)) (by rfl))) (fun _ _ _ _ _ => (pv 6)))
    (pss_cons (ps_set (i := 4) sc__next_name.nd rfl (Or.inr rfl) (pe_ifExp (pt_cmpR (op_eqD hr.units) (pv 3) (pe_lst pa_nil) (nomark _)) (pv 0) (pv 3)))
    (pss_cons (ps_setLc2 (i := 5) (own := [("own", 7), ("rows", 8), ("name", 6)]) (vs1 := [6]) (wi1 := iTup K (tVar 7)) (tt := tYes) rfl sc__next_name.nd rfl rfl (sw_true rfl rfl rfl (by decide +kernel)) (pi_seq (pv 1)) (blkOk_by (N := n__next_name) (sc := defScope s__next_name) (by decide +kernel)) (by decide) (fun _ _ _ _ _ => pg_tupK (K := K) (n := 2) rfl rfl (pgs_cons (pg_name (i := 7) sc__next_name.nd rfl (Or.inl rfl)) (pgs_cons (pg_name (i := 8) sc__next_name.nd rfl (Or.inl rfl)) pgs_nil))) (fun _ _ _ _ _ => pts_nil) (fun _ _ _ _ _ => (pi_tup (pv 7))) (fun _ _ _ _ _ => pg_name (i := 6) sc__next_name.nd rfl (Or.inl rfl)) (fun _ _ _ _ _ => pts_one (pt_cmpR (op_in_seqK (K := K) rfl) (pv 6) (pv 4) (by rfl))) (fun _ _ _ _ _ => (pe_tup (pa_cons (pe_callB (call_len_seqK (K := K) rfl) (by rfl) m_len PySem.boot_len (pa_cons (pv 8) pa_nil)) (pa_cons (pv 6) pa_nil)))))
    (pss_one (ps_ret (pe_ifExp (pt_cmpR (op_neD hr.units) (pv 5) (pe_lst pa_nil) (nomark _)) (pe_ix ix_tup (pe_callB (id := "min") (Dl.cr_minD rfl (Nat.lt_trans (Nat.lt_succ_self _) (room hr))) (by rfl) m_min (by decide +kernel) (pa_cons (pv 5) pa_nil)) pe_int (fun _ _ => rfl)) (pe_ix ix_seq (pv 4) pe_int (fun _ _ => rfl)))))))), ?_⟩
    walk_at "rd"
    refine ⟨⟨_, hn⟩, fun D nD => ?_⟩
    refine Go.lc_rel walk_tup ms (fun z => decide (z ∈ q.1)) (fun H v z => v = .str z) (by rw [List.length_map]) (by rw [List.length_map]; omega) nD (fun _ _ _ _ _ h => h) (fun _ _ _ _ _ _ h => h) (fun H' s => Bx.Same.tup s hn) Go.yat ?_ ?_
    · rintro j z y H2a H2 hz s2 ⟨rfl, hy⟩ Z Z' hZ hZ'
      rw [List.getElem?_map, hz] at hy
      cases hy
      refine ⟨rfl, ?_⟩
      walk_at "rd"
      refine ⟨_, _, _, _, rfl, rfl, Bx.Same.tup s2 t1, atI_nat (j := 0) rfl, ?_⟩
      refine ⟨_, _, rfl, .inr (PlT.same s2 t2).sq, rfl, flat_all _, ?_⟩
      rw [inV_str]
      refine ⟨_, rfl, ite2 (fun c => ?_) (fun c => ?_)⟩
      · walk_at "rd"
        exact hZ _ _ c (Same.refl _) rfl
      · exact hZ' _ (Bool.eq_false_iff.mpr c) (Same.refl _)
    · rintro H2 ws s2 hW hws
      obtain rfl := Go.all2_eq hws
      dsimp only [gName]
      refine Go.st_gi (i := 4) (fun v H' => ∃ wa wl, v = .ref wa ∧ Same H2 H' ∧ (SqL K H' wa (wl.map V.str) ∨ SqT K H' wa (wl.map V.str)) ∧ wl ≠ [] ∧ ∀ z ∈ wl, z ∈ ms) ?_ ?_
      · intro D' hD' _
        walk_at "rd"
        tm_at "al e"
        have okq : ∀ z ∈ ms.filter (fun z => decide (z ∈ q.1)), PyData.strOk z = true := fun z hz => okm z (List.mem_filter.mp hz).1
        refine ⟨.list ((ms.filter fun z => decide (z ∈ q.1)).map PyData.str), .list [], .lst (sq (se _ _ hW)) (dp_strs _), .lst (sq he) .nil, shape (n := 1) (lay_list (n := 0) (lays_strs okq)) (by decide), rfl, ?_⟩
        rw [eqv_nilL]
        cases ef : (ms.filter fun z => decide (z ∈ q.1)) with
        | nil =>
          refine ⟨_, rfl, ?_⟩
          refine ite2 (fun _ => ?_) (fun h => absurd rfl h)
          walk_at "rd"
          exact hD' _ _ ⟨na, ms, rfl, se, .inr (Bx.Same.tup (s2.trans se) hn), m0, fun z hz => hz⟩
        | cons y ys =>
          refine ⟨_, rfl, ?_⟩
          refine ite2 (fun h => absurd h (by simp)) (fun _ => ?_)
          walk_at "rd"
          refine hD' _ _ ⟨D, y :: ys, rfl, se, .inl (sq (by rw [← ef]; exact se _ _ hW)), by simp, fun z hz => ?_⟩
          rw [← ef] at hz
          exact (List.mem_filter.mp hz).1
      · rintro v H3 ⟨wa, wl, rfl, s3, hw, w0, wm⟩
        have s03 := s2.trans s3
        have ht3 : SqL K H3 ta us ∨ SqT K H3 ta us := ht.imp (Same.seq s03) (Bx.Same.tup s03)
        walk_at "rd"
        refine seq_case ht3 fun J G wk hG => fun D2 nD2 => ?_
        refine walk_any wk (fun i H' => Same H3 H' ∧ ∃ (us' : List V) (prs : List (Int × Str)), H' D2 = some (.lst us') ∧ DpAll K H' us' (prs.map psD) ∧ (∀ x ∈ prs, x.2 ∈ ms) ∧ us'.length ≤ 5 * i) ⟨same_new nD2, [], [], upd_same, .nil, (fun x hx => nomatch hx), Nat.le_refl _⟩ (fun i H' _ h => hG _ h.1) ?_ ?_
        · rintro i x H4a H4 hi ⟨s4, us', prs, hD4, dp4, pm, ul⟩ ⟨rfl, hx⟩
          obtain ⟨t, hte, p, rfl, hp⟩ := (hts.same s03).at hx
          have il : i < 100 := by have := hts.len; omega
          have tl5 := t5 t (List.mem_of_getElem? hte)
          obtain ⟨a2, b2, us2, u1, u2, u3, u4⟩ := hp
          refine ⟨_, _, rfl, Bx.Same.tup s4 u1, rfl, _, _, rfl, _, _, rfl, rfl, ?_⟩
          walk_at "rd"
          refine ⟨⟨_, (PlT.same s4 u2).sq⟩, walk_any walk_tup (fun j H' => Same H3 H' ∧ ∃ (us' : List V) (prs : List (Int × Str)), H' D2 = some (.lst us') ∧ DpAll K H' us' (prs.map psD) ∧ (∀ x ∈ prs, x.2 ∈ ms) ∧ us'.length ≤ 5 * i + j) ⟨s4, us', prs, hD4, dp4, pm, ul⟩ (fun j H' _ h => (PlT.same h.1 u2).sq) ?_ ?_⟩
          · rintro j x H5a H5 hj ⟨s5, us', prs, hD5, dp5, pm, ul⟩ ⟨rfl, hx2⟩
            obtain ⟨z, hz, rfl⟩ := at_map hx2
            rw [List.length_map] at hj
            refine ⟨rfl, ?_⟩
            walk_at "rd"
            have s35 := s5
            refine ⟨wa, _, rfl, hw.imp (Same.seq s35) (Bx.Same.tup s35), rfl, flat_all _, ?_⟩
            rw [inV_str]
            refine ⟨_, rfl, ite2 (fun c => ?_) (fun c => ?_)⟩
            · walk_at "rd"
              refine ⟨_, _, rfl, .inr (Bx.Same.tup s5 u3), ?_⟩
              walk_at "rd"
              tm_at "al e"
              have De : D2 ≠ e := fun h => by rw [← h, hD5] at ne; cases ne
              have hDe := se _ _ hD5
              refine ⟨us', hDe, szl (by omega), same_at nD2 (s5.trans se), us' ++ [.ref e], prs ++ [(((us2.length : Nat) : Int), z)], upd_same, ?_, fun x hx => ?_, by rw [List.length_append]; show us'.length + 1 ≤ _; omega⟩
              · rw [List.map_append]
                exact Go.da_put hDe (tup_ps prs) rfl (dpAll_same se dp5) (.tup (sqt he) (.cons (.int _) (.cons (.str _) .nil)))
              · rcases List.mem_append.mp hx with h | h
                · exact pm x h
                · rw [List.mem_singleton.mp h]
                  exact wm z (of_decide_eq_true c)
            · exact ⟨s5, us', prs, hD5, dp5, pm, by omega⟩
          · rintro H5 ⟨s5, us', prs, hD5, dp5, pm, ul⟩
            rw [List.length_map] at ul
            exact ⟨s5, us', prs, hD5, dp5, pm, by omega⟩
        · rintro H4 ⟨s4, us', prs, hD4, dp4, pm, ul⟩
          have s04 := s03.trans s4
          have lu := hts.len
          walk_at "rd"
          tm_at "al e"
          refine ⟨.list (prs.map psD), .list [], .lst (sq (se _ _ hD4)) (dpAll_same se dp4), .lst (sq he) .nil, shape (lay_list (lays_ps fun x hx => okm _ (pm x hx))) (by decide), rfl, ?_⟩
          rw [eqv_nilL]
          cases prs with
          | nil =>
            refine ⟨_, rfl, ?_⟩
            refine ite2 (fun h => (nomatch h)) (fun _ => ?_)
            obtain ⟨y, ys, rfl⟩ := List.exists_cons_of_ne_nil w0
            walk_at "rd"
            refine Go.ix_any (i := 0) (hw.imp (Same.seq (s4.trans se)) (Bx.Same.tup (s4.trans se))) (atI_nat (j := 0) rfl) ?_
            exact q0 y _ (s04.trans se) (wm y (List.mem_cons_self ..))
          | cons y ys =>
            refine ⟨_, rfl, ?_⟩
            refine ite2 (fun h => ?_) (fun h => absurd rfl h)
            walk_at "rd"
            have ln := da_len dp4
            refine ⟨D2, us', psD y, ys.map psD, rfl, sq (se _ _ hD4), dpAll_same se dp4, alike_ps (y :: ys), Nat.le_trans (lays_ps (xs := y :: ys) fun x hx => okm _ (pm x hx)).2 (by decide), fun v hv hd => ?_⟩
            obtain ⟨i, hi⟩ := List.mem_iff_getElem?.mp hv
            obtain ⟨x, hx, dx⟩ := da_atM (dpAll_same se dp4) hi
            obtain ⟨p, rfl, hp⟩ := dp_ps dx
            refine ⟨_, _, _, _, rfl, rfl, hp, atI_nat (j := 1) rfl, ?_⟩
            exact q0 x.2 _ (s04.trans se) (pm x (List.mem_of_getElem? hx))
end
end K21
namespace K21
open Go (tupD tupAll Tk tk_same Tk.trans tk_lst dp_tk da_tk All2)
open PySem PySem.Spec PyProof.Rows L2 Bx TL Dx Zx Ow Sup NdefX Px
local macro_rules | `(tactic| walk_at "rd") => `(tactic| repeat (first | refine ⟨rfl, ?_⟩ | refine ⟨_, rfl, ?_⟩ | refine ⟨_, _, rfl, rfl, ?_⟩ | refine ⟨⟨_, rfl⟩, ?_⟩))
local macro_rules
  | `(tactic| tm_at $s:str) => do
    let id (x : String) := Lean.mkIdent (Lean.Name.mkSimple x)
    match s.getString.splitOn " " with
    | ["rd"] => `(tactic| walk_at "rd")
    | ["sz"] => `(tactic| first | exact sz (by decide) | exact szl (by decide) | exact sz (by show _ ≤ 100000; decide) | ((first | refine sz ?_ | refine szl ?_); (try simp only [List.length_map, List.length_append, List.length_cons, List.length_nil, List.length_take, List.length_drop]); omega) | fail "sz: no bound")
    | ["gn", p, h] => `(tactic| (generalize hu : upd _ $(id p) _ = $(id ("H" ++ p)); obtain ⟨$(id ("s" ++ p)), $(id h)⟩ := Go.al $(id ("n" ++ p)) hu; clear hu))
    | ["al", p] => `(tactic| (refine ⟨by tm_at "sz", fun $(id p) $(id ("n" ++ p)) => ?_⟩; generalize hu : upd _ $(id p) _ = $(id ("H" ++ p)); obtain ⟨$(id ("s" ++ p)), $(id ("h" ++ p))⟩ := Go.al $(id ("n" ++ p)) hu; clear hu; tm_at "rd"))
    | ["al0", p] => `(tactic| (refine ⟨by tm_at "sz", fun $(id p) $(id ("n" ++ p)) => ?_⟩; generalize hu : upd _ $(id p) _ = $(id ("H" ++ p)); obtain ⟨$(id ("s" ++ p)), $(id ("h" ++ p))⟩ := Go.al $(id ("n" ++ p)) hu; clear hu; tm_at "rd"))
    | ["new", p] => `(tactic| (refine fun $(id p) $(id ("n" ++ p)) => ?_; generalize hu : upd _ $(id p) _ = $(id ("H" ++ p)); obtain ⟨$(id ("s" ++ p)), $(id ("h" ++ p))⟩ := Go.al $(id ("n" ++ p)) hu; clear hu; tm_at "rd"))
    | ["new0", p] => `(tactic| (refine fun $(id p) $(id ("n" ++ p)) => ?_; generalize hu : upd _ $(id p) _ = $(id ("H" ++ p)); obtain ⟨$(id ("s" ++ p)), $(id ("h" ++ p))⟩ := Go.al $(id ("n" ++ p)) hu; clear hu; tm_at "rd"))
    | ["up"] => `(tactic| first
        | assumption | exact sq (by assumption) | exact sqt (by assumption) | exact PlT.sq (by assumption)
        | (refine' Bx.Same.tup (by assumption) ?hh; (case hh => tm_at "up")) | (refine' Same.seq (by assumption) ?hh; (case hh => tm_at "up")) | (refine' Go.get (by assumption) ?hh; (case hh => tm_at "up")) | (refine' dpAll_same (by assumption) ?hh; (case hh => tm_at "up")) | (refine' dp_same (by assumption) ?hh; (case hh => tm_at "up")) | (refine' PlT.same (by assumption) ?hh; (case hh => tm_at "up")) | (refine' Go.srcS (by assumption) ?hh; (case hh => tm_at "up"))
        | (refine' Go.tupB (s := _) (by assumption) (by assumption) ?hh; (case hh => tm_at "up")) | (refine' Go.dkB (s := _) (by assumption) (by assumption) ?hh; (case hh => tm_at "up")) | (refine' Go.insB (s := _) (by assumption) (by assumption) ?hh; (case hh => tm_at "up")) | (refine' Go.pltB (s := _) (by assumption) (by assumption) ?hh; (case hh => tm_at "up"))
        | (refine' Go.getB (by assumption) (by first | assumption | exact Ne.symm (by assumption)) ?hh; (case hh => tm_at "up"))
        | (refine' sq ?hh; (case hh => tm_at "raw")) | (refine' sqt ?hh; (case hh => tm_at "raw")) | (refine' PlT.sq ?hh; (case hh => tm_at "raw")) | fail "up: no fact")
    | ["raw"] => `(tactic| first
        | assumption | (refine' Go.get (by assumption) ?hh; (case hh => tm_at "raw")) | (refine' PlT.same (by assumption) ?hh; (case hh => tm_at "raw")) | (refine' Go.pltB (s := _) (by assumption) (by assumption) ?hh; (case hh => tm_at "raw")) | (refine' Go.getB (by assumption) (by first | assumption | exact Ne.symm (by assumption)) ?hh; (case hh => tm_at "raw")) | fail "raw: no fact")
    | ["sq"] => `(tactic| first | exact .inl (by tm_at "up") | exact .inr (by tm_at "up") | fail "sq: no fact")
    | ["ix", j] => `(tactic| (refine ⟨_, _, _, _, rfl, rfl, by tm_at "up", by exact atI_nat (j := $(Lean.Syntax.mkNumLit j)) rfl, ?_⟩; tm_at "rd"))
    | ["ixh", h] => `(tactic| (refine ⟨_, _, _, _, rfl, rfl, by tm_at "up", by first | exact Go.at_mapV $(id h) | exact Go.at_mapZ $(id h) | exact atI_nat $(id h) | exact Go.at_nat0 $(id h), ?_⟩; tm_at "rd"))
    | ["len"] => `(tactic| (refine ⟨_, _, rfl, by tm_at "sq", ?_⟩; (try rw [List.length_map]); tm_at "rd"))
    | ["tp", p] => `(tactic| (refine ⟨_, _, rfl, .inl ⟨by tm_at "up", fun $(id p) $(id ("n" ++ p)) => ?_⟩⟩; generalize hu : upd _ $(id p) _ = $(id ("H" ++ p)); obtain ⟨$(id ("s" ++ p)), $(id ("h" ++ p))⟩ := Go.al $(id ("n" ++ p)) hu; clear hu; tm_at "rd"))
    | ["tp0", p] => `(tactic| (refine ⟨_, _, rfl, .inl ⟨by tm_at "up", fun $(id p) $(id ("n" ++ p)) => ?_⟩⟩; generalize hu : upd _ $(id p) _ = $(id ("H" ++ p)); obtain ⟨$(id ("s" ++ p)), $(id ("h" ++ p))⟩ := Go.al $(id ("n" ++ p)) hu; clear hu; tm_at "rd"))
    | ["ls", p] => `(tactic| (refine ⟨_, _, rfl, by tm_at "sq", fun $(id p) $(id ("n" ++ p)) => ?_⟩; generalize hu : upd _ $(id p) _ = $(id ("H" ++ p)); obtain ⟨$(id ("s" ++ p)), $(id ("h" ++ p))⟩ := Go.al $(id ("n" ++ p)) hu; clear hu; tm_at "rd"))
    | ["ls0", p] => `(tactic| (refine ⟨_, _, rfl, by tm_at "sq", fun $(id p) $(id ("n" ++ p)) => ?_⟩; generalize hu : upd _ $(id p) _ = $(id ("H" ++ p)); obtain ⟨$(id ("s" ++ p)), $(id ("h" ++ p))⟩ := Go.al $(id ("n" ++ p)) hu; clear hu; tm_at "rd"))
    | ["tf", p] => `(tactic| (refine ⟨_, _, rfl, by tm_at "up", fun $(id p) $(id ("o" ++ p)) $(id ("n" ++ p)) $(id ("d" ++ p)) => ?_⟩; generalize hu : upd _ $(id p) _ = $(id ("H" ++ p)); obtain ⟨$(id ("s" ++ p)), $(id ("h" ++ p))⟩ := Go.alF $(id ("n" ++ p)) $(id ("d" ++ p)) hu; clear hu; tm_at "rd"))
    | ["alF", p] => `(tactic| (refine ⟨by tm_at "sz", fun $(id p) $(id ("o" ++ p)) $(id ("n" ++ p)) $(id ("d" ++ p)) => ?_⟩; generalize hu : upd _ $(id p) _ = $(id ("H" ++ p)); obtain ⟨$(id ("s" ++ p)), $(id ("h" ++ p))⟩ := Go.alF $(id ("n" ++ p)) $(id ("d" ++ p)) hu; clear hu; tm_at "rd"))
    | ["bare", k] => `(tactic| (refine fun $(id k) $(id ("d" ++ k)) $(id ("n" ++ k)) $(id ("nd" ++ k)) $(id ("ne" ++ k)) => ?_; generalize hu : upd (upd _ $(id ("d" ++ k)) _) $(id k) _ = $(id ("H" ++ k)); obtain ⟨$(id ("s" ++ k)), $(id ("h" ++ k))⟩ := Go.bare $(id ("n" ++ k)) $(id ("nd" ++ k)) $(id ("ne" ++ k)) hu; clear hu; walk_at "rd"))
    | ["me"] => `(tactic| (refine ⟨_, _, _, rfl, by tm_at "up", rfl, ?_⟩; walk_at "rd"))
    | ["star"] => `(tactic| ((first | refine ⟨_, _, rfl, .inl (by tm_at "up"), ?_⟩ | refine ⟨_, _, rfl, .inr (by tm_at "up"), ?_⟩ | fail "star"); walk_at "rd"))
    | ["ap0"] => `(tactic| (refine ⟨.inl ⟨rfl, _, by tm_at "up"⟩, ?_⟩; tm_at "rd"))
    | ["ap"] => `(tactic| refine ⟨_, _, _, rfl, rfl, by tm_at "up", by tm_at "sz", ?_⟩)
    | ["un", n] => match n with
      | "2" => `(tactic| (refine ⟨_, _, rfl, by tm_at "up", rfl, _, _, rfl, _, _, rfl, rfl, ?_⟩; tm_at "rd"))
      | _ => `(tactic| (refine ⟨_, _, rfl, by tm_at "up", rfl, _, _, rfl, _, _, rfl, _, _, rfl, rfl, ?_⟩; tm_at "rd"))
    | _ => Lean.Macro.throwUnsupported
/-- a found assignment: a solution that breaks the question -/
structure FoundOk (ns : List Str) (ts : List Tab) (q : Tab) (l : As) : Prop where
  nd : (l.map (·.1)).Nodup
  mem : ∀ z, z ∈ l.map (·.1) ↔ z ∈ ns
  dig : ∀ p ∈ l, p.2 = 0 ∨ p.2 = 1 ∨ p.2 = 2
  fit : ts.all (fitT fun z => (lk l z).getD 0) = true
  brk : fitT (fun z => (lk l z).getD 0) q = false
/-- what _cases returns -/
inductive CR (K : PySem.W.Frag) (H : Hp) (R : Addr) (ns : List Str) (ts : List Tab) (q : Tab) (l : As) (m : Nat) (H0 : Hp) (d0 : Addr) : Prop where
  | tree (x : V) (tr : Tr) : SqT K H R [x, .non] → Dp K H x (trD tr) → dep tr ≤ m → Rt ns ts q tr (lk l) = true → CR K H R ns ts q l m H0 d0
  | found (d : Addr) (l' : As) : SqT K H R [.non, .ref d] → H d = some (.dK (asV l')) → FoundOk ns ts q l' → (d = d0 ∨ H0 d = none) → CR K H R ns ts q l m H0 d0
theorem dd_of {σ : List (Option V)} {H : Hp} {Q : VK} {i j : Nat} {d e : Addr} {l : As} {s : Str} {v : Int} (e1 : σ[i]? = some (some (.ref d))) (e2 : σ[j]? = some (some (.ref e))) (hd : H d = some (.dK (asV l))) (he : H e = some (.dK (asV [(s, v)]))) (ns : s ∉ l.map (·.1)) (ll : l.length ≤ 1000)
    (q : ∀ p H', Same H H' → H p = none → H' p = some (.dK (asV (l ++ [(s, v)]))) → Q (.ref p) H') : Ds.tDD (tVar i) (tVar j) σ H Q := by
  refine fun p np => ⟨_, e1, ?_⟩
  have nap : d ≠ p := fun e => by rw [← e, hd] at np; cases np
  have nep : e ≠ p := fun e => by rw [← e, he] at np; cases np
  refine ⟨d, asV l, rfl, by rw [upd_ne nap]; exact hd, nap, upd_same, by rw [show (asV l).length = l.length from List.length_map _]; exact sz (by omega), ?_⟩
  refine ⟨_, e2, e, .inr s, .int v, rfl, by rw [upd_ne nep, upd_ne nep]; exact he, nep, upd_same, ?_⟩
  rw [put_as ns]
  refine q p _ (fun b o hb => ?_) np upd_same
  rw [upd_ne (ne_of_none hb np), upd_ne (ne_of_none hb np), upd_ne (ne_of_none hb np)]
  exact hb
theorem eqv_nilT {α : Type} {f : α → PyData} (l : List α) : PyData.eqv (.tuple (l.map f)) (.tuple []) = l.isEmpty := by cases l <;> rfl
section
variable {P : Program} {w : World} {K : PySem.W.Frag} {mg : Str → Option Value} {base : Heap}
/-- the state of a search: l is decided, ms is left -/
structure Srch (ns : List Str) (ts : List Tab) (q : Tab) (ms : List Str) (l : As) : Prop where
  nd : (l.map (·.1) ++ ms).Nodup
  mem : ∀ z, z ∈ ns ↔ z ∈ l.map (·.1) ∨ z ∈ ms
  dig : ∀ p ∈ l, p.2 = 0 ∨ p.2 = 1 ∨ p.2 = 2
  tab : ∀ t ∈ ts, TOk t ∧ t.1.length ≤ 5 ∧ ∀ z ∈ t.1, z ∈ ns
  que : ∀ z ∈ q.1, z ∈ ns
  okn : ∀ z ∈ ns, PyData.strOk z = true
  len : l.length + ms.length ≤ 20
  tl : ts.length ≤ 100
theorem Srch.step {ns : List Str} {ts : List Tab} {q : Tab} {ms : List Str} {l : As} (S : Srch ns ts q ms l) {z : Str} (hz : z ∈ ms) {v : Int} (hv : v = 0 ∨ v = 1 ∨ v = 2) : Srch ns ts q (ms.filter fun y => decide (y ≠ z)) (l ++ [(z, v)]) := by
  have nd := List.nodup_append.mp S.nd
  have lt : (ms.filter fun y => decide (y ≠ z)).length < ms.length := List.length_filter_lt_length_iff_exists.mpr ⟨z, hz, by simp⟩
  refine ⟨?_, fun y => ?_, fun p hp => ?_, S.tab, S.que, S.okn, ?_, S.tl⟩
  · rw [List.map_append, List.append_assoc, List.nodup_append]
    refine ⟨nd.1, ?_, fun a ha b hb => ?_⟩
    · refine List.nodup_cons.mpr ⟨fun h => ?_, nd.2.1.filter _⟩
      exact of_decide_eq_true (List.mem_filter.mp h).2 rfl
    · rcases List.mem_cons.mp hb with h | h
      · have h2 : b = z := h
        rw [h2]
        exact nd.2.2 a ha z hz
      · exact nd.2.2 a ha b (List.mem_filter.mp h).1
  · rw [S.mem y, List.map_append, List.mem_append, List.mem_filter]
    constructor
    · rintro (h | h)
      · exact .inl (.inl h)
      · by_cases e : y = z
        · exact .inl (.inr (by rw [e]; exact List.mem_singleton.mpr rfl))
        · exact .inr ⟨h, decide_eq_true e⟩
    · rintro ((h | h) | h)
      · exact .inl h
      · have h2 : y = z := List.mem_singleton.mp h
        exact .inr (h2 ▸ hz)
      · exact .inr h.1
  · rcases List.mem_append.mp hp with h | h
    · exact S.dig p h
    · rw [List.mem_singleton.mp h]
      exact hv
  · have := S.len
    rw [List.length_append]
    show l.length + 1 + _ ≤ 20
    omega
def spCases (K : PySem.W.Frag) : Nat → Sp
  | 0 => fun _ _ _ _ => False
  | k + 1 => fun vs H Q _ => ∃ (na ta cp d : Addr) (ms ns : List Str) (us : List V) (ts : List Tab) (q : Tab) (l : As), vs = [.ref na, .ref ta, .ref cp, .ref d] ∧ SqT K H na (ms.map V.str) ∧ ms.length ≤ k ∧ (SqL K H ta us ∨ SqT K H ta us) ∧ TAll K H us (ts.map (cutT (lk l))) ∧ TabAt K H cp q ∧ q.1.length ≤ 20 ∧ H d = some (.dK (asV l)) ∧ Srch ns ts q ms l ∧ ∀ R H', Same H H' → CR K H' R ns ts q l ms.length H d → Q (.ref R) H'
set_option maxHeartbeats 2000000 in
theorem ok_cases {f : Addr} {fd : FuncData} (F : Fun K "_cases" "_cases" s__cases f fd) (m_enumerate : mg "enumerate" = none) (m_tuple : mg "tuple" = none) (C_agreeing : Cal P w K mg base "agreeing" 1 ["constraint", "decided"] (spAgree K)) (C__is_shown : Cal P w K mg base "_is_shown" 1 ["constraint", "decided"] (spShown K)) (C__next_name : Cal P w K mg base "_next_name" 1 ["names", "tables", "constraint"] (spNext K))
    {tv : Addr} (m_VALUES : mg "VALUES" = some (.ref tv)) (t_VALUES : ∀ H : Hp, SqT K H tv [.int 0, .int 1, .int 2])
    (gS : mg "_cases" = some (.ref f)) (kS : PySem.W.keepIn K (.ref f) = true) (bS : Binds K fd ["names", "tables", "constraint", "decided"] []) : ∀ k : Nat, FnOk P w K mg base CX0 (k + 1) f fd ["names", "tables", "constraint", "decided"] (spCases K k)
  | 0 => F.ok sc__cases (fun vs H Q E h => h.elim) (fun cdv A outer s H vs Q E hr h => h.elim)
  | k + 1 => by
    have C__cases : Cal P w K mg base "_cases" (k + 1) ["names", "tables", "constraint", "decided"] (spCases K k) := ⟨_, _, ok_cases F m_enumerate m_tuple C_agreeing C__is_shown C__next_name m_VALUES t_VALUES gS kS bS k, gS, kS, bS⟩
    refine F.ok sc__cases (fun vs H Q E h => ?_) (fun cdv A outer s H vs Q E hr h => ?_)
    · obtain ⟨na, ta, cp, d, ms, ns, us, ts, q, l, rfl, _⟩ := h
      rfl
    · obtain ⟨na, ta, cp, d, ms, ns, us, ts, q, l, rfl, hn, mk, ht, hts, hq, ql, hd, S, q0⟩ := h
      have hu := hu_of hr
      refine ⟨_, (pss_cons (ps_for PassesOwn.never rfl (Ds.pi_enS (by rfl) m_enumerate (pa_cons (pv 1) pa_nil)) (pg_tup rfl (pgs_cons (pg_name (i := 8) sc__cases.nd rfl (Or.inl rfl)) (pgs_cons (pg_name (i := 9) sc__cases.nd rfl (Or.inl rfl)) pgs_nil)))
      (pss_one (ps_if (pt_cmpR (op_eqD hr.units) (pe_ix ix_tup (pv 9) pe_int (fun _ _ => rfl)) (pe_tup pa_nil) (nomark _))
      (pss_one (ps_ret (pe_tup (pa_cons (pv 8) (pa_cons pe_non pa_nil)))))
      pss_nil)))
    (pss_cons (ps_if (pt_val (pe_cal C__is_shown (hr.mono (by omega)) (pa_cons (pv 2) (pa_cons (pv 3) pa_nil))))
      (pss_one (ps_ret (pe_tup (pa_cons (pe_un un_neg pe_int) (pa_cons pe_non pa_nil)))))
      pss_nil)
    (pss_cons (ps_if (pt_cmpR (op_eqD hr.units) (pv 0) (pe_tup pa_nil) (nomark _))
      (pss_one (ps_ret (pe_tup (pa_cons pe_non (pa_cons (pv 3) pa_nil)))))
      pss_nil)
    (pss_cons (ps_set (i := 4) sc__cases.nd rfl (Or.inr rfl) (pe_cal C__next_name (hr.mono (by omega)) (pa_cons (pv 0) (pa_cons (pv 1) (pa_cons (pv 2) pa_nil)))))
    (pss_cons (ps_set (i := 5) sc__cases.nd rfl (Or.inl rfl) (pe_callTy (T := "tuple") call_tuple_of (by rfl) m_tuple (by decide +kernel) (pa_cons (pe_lc (own := [("other", 14)]) rfl sc__cases.nd (pi_tup (pv 0)) (blkOk_by (N := n__cases) (sc := defScope s__cases) (by decide +kernel)) (fun _ _ _ _ _ => pg_name (i := 14) sc__cases.nd rfl (Or.inl rfl)) (fun _ _ _ _ _ => pts_one (pt_cmpR op_ne (pv 14) (pv 4) (nomark _))) (fun _ _ _ _ _ => (pv 14))) pa_nil)))
    (pss_cons (ps_set (i := 6) sc__cases.nd rfl (Or.inl rfl) (pe_lst pa_nil))
    (pss_cons (ps_for PassesOwn.never rfl (pi_tup (pe_glob (v := .ref tv) rfl m_VALUES rfl)) (pg_name (i := 7) sc__cases.nd rfl (Or.inl rfl))
      (pss_cons (ps_set (i := 10) sc__cases.nd rfl (Or.inr rfl) (pe_disp (pps_cons (pv 4) (pv 7) pps_nil) (by rfl) (by rfl) (by simp) (by decide)))
    (pss_cons (ps_setLc (i := 11) (own := [("table", 9)]) (tt := tYes) rfl sc__cases.nd rfl rfl (sw_true rfl rfl rfl (by decide +kernel)) (pi_seq (pv 1)) (blkOk_by (N := n__cases) (sc := defScope s__cases) (by decide +kernel)) (fun _ _ _ _ _ => pg_name (i := 9) sc__cases.nd rfl (Or.inl rfl)) (fun _ _ _ _ _ => pts_nil) (fun _ _ _ _ _ => (pe_ifExp (pt_cmpR (op_in_seqK (K := K) rfl) (pv 4) (pe_ix (ix_tupK (K := K) rfl) (pv 9) pe_int (fun _ _ => rfl)) (by rfl)) (pe_cal C_agreeing (hr.mono (by omega)) (pa_cons (pv 9) (pa_cons (pv 10) pa_nil))) (pv 9))))
    (pss_cons (ps_asg (pe_cal C__cases (hr.mono (by omega)) (pa_cons (pv 5) (pa_cons (pv 11) (pa_cons (pv 2) (pa_cons (Ds.pe_dd (pv 3) (pv 10)) pa_nil))))) (pg_tup rfl (pgs_cons (pg_name (i := 12) sc__cases.nd rfl (Or.inl rfl)) (pgs_cons (pg_name (i := 13) sc__cases.nd rfl (Or.inl rfl)) pgs_nil))))
    (pss_cons (ps_if (pt_cmpR op_notN (pv 13) pe_non (nomark _))
      (pss_one (ps_ret (pe_tup (pa_cons pe_non (pa_cons (pv 13) pa_nil)))))
      pss_nil)
    (pss_one (ps_expr (pe_bm PySem.F.plainAttrs_list PySem.F.slot_list_append PySem.F.type_list_append mt_append (pv 6) (pa_cons (pv 12) pa_nil)))))))))
    (pss_one (ps_ret (pe_tup (pa_cons (pe_tup (pa_cons (pv 4) (StX.pa_star (pv 6) pa_nil))) (pa_cons pe_non pa_nil)))))))))))), ?_⟩
      walk_at "rd"
      refine ⟨ta, us, rfl, Ds.enS_case ht fun J G wk hG => ?_⟩
      have lu : us.length = ts.length := by rw [hts.len, List.length_map]
      refine for_it wk (fun i σ H' => ∃ o8 o9 : Option V, σ = [some (.ref na), some (.ref ta), some (.ref cp), some (.ref d), none, none, none, none, o8, o9, none, none, none, none, none] ∧ Same H H' ∧ ∀ j t, j < i → ts[j]? = some t → (cutT (lk l) t).2 ≠ []) ⟨none, none, rfl, Same.refl H, fun j t h => absurd h (Nat.not_lt_zero j)⟩ (fun i σ H' _ ⟨_, _, _, s, _⟩ => hG _ s) ?_ ?_
      · rintro i x σ H1a H1 hi ⟨o8, o9, rfl, s1, al⟩ ⟨T, x, rfl, nT, rfl, hx⟩
        obtain ⟨t', ht', p, rfl, hp⟩ := (hts.same s1).at hx
        rw [List.getElem?_map] at ht'
        obtain ⟨t, ht0, rfl⟩ := Option.map_eq_some_iff.mp ht'
        have u0 := same_new nT (o := .tup [.int (0 + (i : Nat)), .ref p])
        have hT := upd_same (H := H1a) (a := T) (o := .tup [.int (0 + (i : Nat)), .ref p])
        generalize upd H1a T (.tup [.int (0 + (i : Nat)), .ref p]) = H2 at u0 hT ⊢
        have s2 := s1.trans u0
        obtain ⟨a2, b2, us2, u1, u2, u3, u4⟩ := hp.same u0
        refine ⟨_, _, rfl, sqt hT, rfl, _, _, rfl, _, _, rfl, rfl, ?_⟩
        walk_at "rd"
        tm_at "ix 1"
        tm_at "al e"
        refine ⟨.tuple ((cutT (lk l) t).2.map rowD), .tuple [], .tup (Bx.Same.tup se u3) (dpAll_same se u4), .tup (sqt he) .nil, shape (lay_tuple (lay_rows _)) (by decide), rfl, ?_⟩
        rw [eqv_nilT]
        cases er : (cutT (lk l) t).2 with
        | nil =>
          refine ⟨_, rfl, ite2 (fun _ => ?_) (fun h => absurd rfl h)⟩
          walk_at "rd"
          tm_at "al R"
          refine q0 R _ (s2.trans (se.trans sR)) (.tree (.int (0 + (i : Nat))) (.leaf (i : Nat)) (sqt hR) (by rw [Int.zero_add]; exact .int _) (Nat.zero_le _) ?_)
          have il : i < ts.length := by omega
          unfold Rt
          rw [if_neg (by omega), decide_eq_true (show (0 : Int) ≤ (i : Nat) by omega), decide_eq_true (show ((i : Nat) : Int) < (ts.length : Nat) by omega), Int.toNat_natCast, List.getD_eq_getElem?_getD, ht0]
          show (true && true && !canG t (lk l)) = true
          rw [cut_can er]
          rfl
        | cons r rs =>
          refine ⟨_, rfl, ite2 (fun h => (nomatch h)) (fun _ => ?_)⟩
          walk_at "rd"
          refine ⟨_, _, rfl, s2.trans se, fun j t' hj hj2 => ?_⟩
          by_cases e1 : j = i
          · subst e1
            rw [ht0] at hj2
            cases hj2
            rw [er]
            exact fun h => nomatch h
          · exact al j t' (by omega) hj2
      · rintro σ H1 ⟨o8, o9, rfl, s1, al⟩
        rw [lu] at al
        walk_at "rd"
        show spShown K _ _ _ _
        unfold spShown
        refine ⟨cp, d, q, l, rfl, hq.same s1, ql, s1 _ _ hd, fun H2 s2 => ?_⟩
        have s02 := s1.trans s2
        cases hsh : shownG q (lk l) with
        | true =>
          walk_at "rd"
          tm_at "al R"
          refine q0 R _ (s02.trans sR) (.tree (.int (-1)) (.leaf (-1)) (sqt hR) (.int _) (Nat.zero_le _) ?_)
          unfold Rt
          rw [if_pos rfl]
          exact hsh
        | false =>
          walk_at "rd"
          tm_at "al e"
          have okms : ∀ z ∈ ms, PyData.strOk z = true := fun z hz => S.okn z ((S.mem z).mpr (.inr hz))
          have s0e := s02.trans se
          refine ⟨.tuple (ms.map PyData.str), .tuple [], names_dp (Bx.Same.tup s0e hn), .tup (sqt he) .nil, shape (n := 1) (lay_tuple (n := 0) (lays_strs okms)) (by decide), rfl, ?_⟩
          rw [eqv_nilT]
          cases ms with
          | nil =>
            refine ⟨_, rfl, ite2 (fun _ => ?_) (fun h => absurd rfl h)⟩
            walk_at "rd"
            tm_at "al R"
            have nd := S.nd
            rw [List.append_nil] at nd
            have mem : ∀ z, z ∈ l.map (·.1) ↔ z ∈ ns := fun z => by
              rw [S.mem z]
              exact ⟨.inl, fun h => h.elim id (fun h => nomatch h)⟩
            have some_ : ∀ z ∈ ns, (lk l z).isSome = true := fun z hz => by
              rw [← Option.not_isNone, Bool.not_eq_true', ← Bool.not_eq_true]
              intro h
              exact lk_none.mp (Option.isNone_iff_eq_none.mp h) ((mem z).mpr hz)
            refine q0 R _ (s0e.trans sR) (.found d l (sqt hR) (sR _ _ (s0e _ _ hd)) ⟨nd, mem, S.dig, List.all_eq_true.mpr fun t ht => ?_, ?_⟩ (.inl rfl))
            · obtain ⟨j, hj⟩ := List.mem_iff_getElem?.mp ht
              obtain ⟨ok, _, zs⟩ := S.tab t ht
              exact cut_fit ok (fun z hz => some_ z (zs z hz)) (al j t (List.getElem?_eq_some_iff.mp hj).1 hj)
            · rw [← shown_fit fun z hz => some_ z (S.que z hz)]
              exact hsh
          | cons y ys =>
            refine ⟨_, rfl, ite2 (fun h => (nomatch h)) (fun _ => ?_)⟩
            walk_at "rd"
            show spNext K _ _ _ _
            unfold spNext
            have len := S.len
            have ml : (y :: ys).length ≤ 20 := by omega
            have lt9 : ∀ t ∈ ts.map (cutT (lk l)), t.1.length ≤ 5 := fun t ht => by
              obtain ⟨t0, h0, rfl⟩ := List.mem_map.mp ht
              exact (S.tab t0 h0).2.1
            refine ⟨na, ta, cp, y :: ys, us, ts.map (cutT (lk l)), q, rfl, Bx.Same.tup s0e hn, ml, (fun h => nomatch h), okms, ht.imp (Same.seq s0e) (Bx.Same.tup s0e), hts.same s0e, by rw [List.length_map]; exact S.tl, lt9, hq.same s0e, fun z H4 s4 hz => ?_⟩
            obtain ⟨k, rfl⟩ : ∃ j, k = j + 1 := ⟨k - 1, by rw [List.length_cons] at mk; omega⟩
            generalize y :: ys = ms at hn mk S q0 okms ml hz len
            have s04 := s0e.trans s4
            have hn4 := Bx.Same.tup s04 hn
            walk_at "rd"
            refine ⟨⟨_, hn4⟩, fun D nD => ?_⟩
            refine Go.lc_rel walk_tup ms (fun y => decide (y ≠ z)) (fun H v y => v = .str y) (by rw [List.length_map]) (by rw [List.length_map]; omega) nD (fun _ _ _ _ _ h => h) (fun _ _ _ _ _ _ h => h) (fun H' s => Bx.Same.tup s hn4) Go.yat ?_ ?_
            · rintro j y v H5a H5 hy s5 ⟨rfl, hv⟩ Z Z' hZ hZ'
              rw [List.getElem?_map, hy] at hv
              cases hv
              refine ⟨rfl, ?_⟩
              walk_at "rd"
              have eb : (!decide (V.str y = V.str z)) = decide (y ≠ z) := by
                rw [Bool.eq_iff_iff, Bool.not_eq_true', decide_eq_false_iff_not, decide_eq_true_iff]
                exact ⟨fun h e => h (by rw [e]), fun h e => h (V.str.inj e)⟩
              rw [eb]
              refine ite2 (fun c => ?_) (fun c => ?_)
              · walk_at "rd"
                exact hZ _ _ c (Same.refl _) rfl
              · exact hZ' _ (Bool.eq_false_iff.mpr c) (Same.refl _)
            · rintro H5 ws s5 hW hws
              obtain rfl := Go.all2_eq hws
              walk_at "rd"
              tm_at "tp o"
              tm_at "al t0"
              have s0o := s04.trans (s5.trans so)
              have nin : z ∉ l.map (·.1) := fun h => (List.nodup_append.mp S.nd).2.2 z h z hz rfl
              have lt : (ms.filter fun y => decide (y ≠ z)).length < ms.length := List.length_filter_lt_length_iff_exists.mpr ⟨z, hz, by simp⟩
              refine ⟨⟨_, t_VALUES _⟩, for_it (walk_tup (K := K) (a := tv) (xs := [V.int 0, V.int 1, V.int 2])) (fun i σ H' => ∃ o7 o10 o11 o12 o13 : Option V, σ = [some (.ref na), some (.ref ta), some (.ref cp), some (.ref d), some (.str z), some (.ref o), some (.ref t0), o7, o8, o9, o10, o11, o12, o13, none] ∧ Same Ho H' ∧ ∃ (us' : List V) (trs : List Tr), H' t0 = some (.lst us') ∧ DpAll K H' us' (trs.map trD) ∧ trs.length = i ∧ ∀ j tr, trs[j]? = some tr → dep tr + 1 ≤ ms.length ∧ Rt ns ts q tr (setG (lk l) z (j : Nat)) = true) ⟨none, none, none, none, none, rfl, st0, [], [], ht0, .nil, rfl, fun j tr h => nomatch h⟩ (fun i σ H' _ _ => t_VALUES _) ?_ ?_⟩
              · rintro i x σ H6a H6 hi ⟨o7, o10, o11, o12, o13, rfl, s6, us', trs, hL, dL, tl, tR⟩ ⟨rfl, hx⟩
                have hi3 : i < 3 := hi
                have hxi : x = .int (i : Nat) ∧ (((i : Nat) : Int) = 0 ∨ ((i : Nat) : Int) = 1 ∨ ((i : Nat) : Int) = 2) := by
                  match i, hi3, hx with
                  | 0, _, hx => cases hx; exact ⟨rfl, .inl rfl⟩
                  | 1, _, hx => cases hx; exact ⟨rfl, .inr (.inl rfl)⟩
                  | 2, _, hx => cases hx; exact ⟨rfl, .inr (.inr rfl)⟩
                obtain ⟨rfl, dg⟩ := hxi
                have s06 := s0o.trans s6
                walk_at "rd"
                refine fun one n1 => ?_
                have u1 := same_new n1 (o := .dK [])
                have h10 := upd_same (H := H6) (a := one) (o := .dK [])
                generalize upd H6 one (.dK []) = H7 at u1 h10 ⊢
                walk_at "rd"
                refine ⟨h10, [(.inr z, .int (i : Nat))], rfl, (show 1 ≤ 15 by decide), ?_⟩
                rw [show mergeK [] [((.inr z : Key), V.int (i : Nat))] = asV [(z, (i : Nat))] from rfl]
                have h1 := upd_same (H := H7) (a := one) (o := .dK (asV [(z, ((i : Nat) : Int))]))
                have v1 : Same H6 (upd H7 one (.dK (asV [(z, ((i : Nat) : Int))]))) := same_at n1 u1
                generalize upd H7 one (.dK (asV [(z, ((i : Nat) : Int))])) = H8 at h1 v1 ⊢
                have s08 := s06.trans v1
                walk_at "rd"
                refine seq_case (ht.imp (Same.seq s08) (Bx.Same.tup s08)) fun J2 G2 wk2 hG2 => fun D2 nD2 => ?_
                refine Go.lc_rel wk2 ts (fun _ => true) (fun H v t => ∃ p, v = .ref p ∧ TabAt K H p (cutT (setG (lk l) z (i : Nat)) t)) lu.symm (by rw [lu]; have := S.tl; omega) nD2 (fun _ _ _ _ s ⟨p, e, h⟩ => ⟨p, e, h.same s⟩) (fun _ _ _ _ _ hD ⟨p, e, h⟩ => ⟨p, e, h.kp (kp_lst hD)⟩) hG2 Go.yat ?_ ?_
                · rintro j t v H9a H9 hte s9 ⟨rfl, hv⟩ Z Z' hZ _
                  obtain ⟨t', ht', p, rfl, hp⟩ := (hts.same (s08.trans s9)).at hv
                  rw [List.getElem?_map, hte] at ht'
                  cases ht'
                  obtain ⟨tok, t5, tz⟩ := S.tab t (List.mem_of_getElem? hte)
                  have hp0 := hp
                  obtain ⟨a2, b2, us2, w1, w2, w3, w4⟩ := hp0
                  walk_at "rd"
                  tm_at "ix 0"
                  refine ⟨_, _, rfl, .inr w2.sq, rfl, flat_all _, ?_⟩
                  rw [inV_str]
                  refine ⟨_, rfl, ite2 (fun c => ?_) (fun c => ?_)⟩
                  · walk_at "rd"
                    show spAgree K _ _ _ _
                    unfold spAgree
                    refine ⟨p, one, cutT (lk l) t, [(z, ((i : Nat) : Int))], rfl, hp, cut_ok _ tok, t5, s9 _ _ h1, fun r H10 s10 hr10 => ?_⟩
                    refine hZ _ _ rfl s10 ⟨r, rfl, ?_⟩
                    rw [okR_G, lk_cons] at hr10
                    rw [← cut_set (lk_none.mpr nin)]
                    exact hr10
                  · walk_at "rd"
                    have c2 : z ∉ t.1 := fun h => c (decide_eq_true h)
                    refine hZ _ _ rfl (Same.refl _) ⟨p, rfl, ?_⟩
                    rw [← cut_off c2]
                    exact hp
                · rintro H9 fs s9 hF hfs
                  rw [List.filter_eq_self.mpr fun _ _ => rfl] at hfs
                  walk_at "rd"
                  have s09 := s08.trans s9
                  refine dd_of rfl rfl (s09 _ _ hd) (s9 _ _ h1) nin (by omega) fun p2 H10 s10 n2 hp2 => ?_
                  have s010 := s09.trans s10
                  have s6a := v1.trans (s9.trans s10)
                  walk_at "rd"
                  refine ⟨o, D2, cp, p2, ms.filter (fun y => decide (y ≠ z)), ns, fs, ts, q, l ++ [(z, ((i : Nat) : Int))], rfl, sqt (s6a _ _ (s6 _ _ ho)), by omega, .inl (sq (s10 _ _ hF)), ?_, hq.same s010, ql, hp2, S.step hz dg, fun R H11 s11 cr => ?_⟩
                  · rw [lk_snoc nin]
                    exact Go.all2_map (hfs.mono fun v t ⟨p, e, h⟩ => ⟨p, e, h.same s10⟩)
                  have s011 := s010.trans s11
                  have s611 := s6a.trans s11
                  rcases cr with ⟨x, tr, c1, c2, c3, c4⟩ | ⟨d', l', c1, c2, c3, c4⟩
                  · rw [lk_snoc nin] at c4
                    refine ⟨_, _, rfl, c1, rfl, _, _, rfl, _, _, rfl, rfl, ?_⟩
                    walk_at "rd"
                    have hL11 := s611 _ _ hL
                    refine ⟨.inl ⟨rfl, _, sq hL11⟩, ?_⟩
                    walk_at "rd"
                    have ul : us'.length < 3 := by rw [da_len dL, List.length_map]; omega
                    refine ⟨_, _, _, rfl, rfl, hL11, szl (by omega), ?_⟩
                    refine ⟨_, _, _, _, _, rfl, same_at nt0 (s6.trans s611), us' ++ [x], trs ++ [tr], upd_same, ?_, by rw [List.length_append, tl]; rfl, fun j t' ht' => ?_⟩
                    · rw [List.map_append]
                      exact Go.da_put hL11 (Go.tupAll_map tup_tr _) (tup_tr tr) (dpAll_same s611 dL) c2
                    · by_cases e : j < trs.length
                      · rw [List.getElem?_append_left e] at ht'
                        exact tR j t' ht'
                      · rw [List.getElem?_append_right (by omega)] at ht'
                        obtain ⟨e2, e3⟩ := List.getElem?_eq_some_iff.mp ht'
                        have e4 : j = i := by
                          have : j - trs.length < 1 := e2
                          omega
                        subst e4
                        have e5 : tr = t' := by
                          rw [← e3]
                          simp
                        subst e5
                        exact ⟨by omega, c4⟩
                  · refine ⟨_, _, rfl, c1, rfl, _, _, rfl, _, _, rfl, rfl, ?_⟩
                    walk_at "rd"
                    tm_at "al R2"
                    exact q0 R2 _ (s011.trans sR2) (.found d' l' (sqt hR2) (sR2 _ _ c2) c3 (.inr (c4.elim (fun e => by rw [e]; exact s09.free n2) s010.free)))
              · rintro σ H6 ⟨o7, o10, o11, o12, o13, rfl, s6, us', trs, hL, dL, tl, tR⟩
                have tl3 : trs.length = 3 := tl
                obtain ⟨a, b, c, rfl⟩ : ∃ a b c, trs = [a, b, c] := by
                  match trs, tl3 with
                  | [a, b, c], _ => exact ⟨a, b, c, rfl⟩
                have ul : us'.length = 3 := da_len dL
                walk_at "rd"
                refine ⟨t0, us', rfl, .inr (sq hL), ?_⟩
                dsimp only [tNil]
                rw [List.append_nil]
                refine ⟨sz (by rw [List.length_cons, ul]; decide), fun N nN => ?_⟩
                generalize hu2 : upd H6 N (.tup (.str z :: us')) = H7
                obtain ⟨s7, hN⟩ := Go.al nN hu2
                clear hu2
                walk_at "rd"
                tm_at "al R"
                have sEnd := s6.trans (s7.trans sR)
                obtain ⟨d0, r0⟩ := tR 0 a rfl
                obtain ⟨d1, r1⟩ := tR 1 b rfl
                obtain ⟨d2, r2⟩ := tR 2 c rfl
                refine q0 R _ (s0o.trans sEnd) (.tree (.ref N) (.node z a b c) (sqt hR) (.tup (sqt (sR _ _ hN)) (.cons (.str z) (dpAll_same (s7.trans sR) dL))) ?_ ?_)
                · show 1 + max (dep a) (max (dep b) (dep c)) ≤ ms.length
                  omega
                · show (decide (z ∈ ns) && (lk l z).isNone && (Rt ns ts q a (setG (lk l) z 0) && (Rt ns ts q b (setG (lk l) z 1) && Rt ns ts q c (setG (lk l) z 2)))) = true
                  rw [decide_eq_true ((S.mem z).mpr (.inr hz)), lk_none.mpr nin, show Rt ns ts q a (setG (lk l) z 0) = true from r0, show Rt ns ts q b (setG (lk l) z 1) = true from r1, show Rt ns ts q c (setG (lk l) z 2) = true from r2]
                  rfl
end
end K21
namespace K21
open Go (tupD tupAll Tk tk_same Tk.trans tk_lst dp_tk da_tk All2)
open PySem PySem.Spec PyProof.Rows L2 Bx TL Dx Zx Ow Sup NdefX Px
local macro_rules | `(tactic| walk_at "rd") => `(tactic| repeat (first | refine ⟨rfl, ?_⟩ | refine ⟨_, rfl, ?_⟩ | refine ⟨_, _, rfl, rfl, ?_⟩ | refine ⟨⟨_, rfl⟩, ?_⟩))
local macro_rules
  | `(tactic| tm_at $s:str) => do
    let id (x : String) := Lean.mkIdent (Lean.Name.mkSimple x)
    match s.getString.splitOn " " with
    | ["rd"] => `(tactic| walk_at "rd")
    | ["sz"] => `(tactic| first | exact sz (by decide) | exact szl (by decide) | exact sz (by show _ ≤ 100000; decide) | ((first | refine sz ?_ | refine szl ?_); (try simp only [List.length_map, List.length_append, List.length_cons, List.length_nil, List.length_take, List.length_drop]); omega) | fail "sz: no bound")
    | ["gn", p, h] => `(tactic| (generalize hu : upd _ $(id p) _ = $(id ("H" ++ p)); obtain ⟨$(id ("s" ++ p)), $(id h)⟩ := Go.al $(id ("n" ++ p)) hu; clear hu))
    | ["al", p] => `(tactic| (refine ⟨by tm_at "sz", fun $(id p) $(id ("n" ++ p)) => ?_⟩; generalize hu : upd _ $(id p) _ = $(id ("H" ++ p)); obtain ⟨$(id ("s" ++ p)), $(id ("h" ++ p))⟩ := Go.al $(id ("n" ++ p)) hu; clear hu; tm_at "rd"))
    | ["al0", p] => `(tactic| (refine ⟨by tm_at "sz", fun $(id p) $(id ("n" ++ p)) => ?_⟩; generalize hu : upd _ $(id p) _ = $(id ("H" ++ p)); obtain ⟨$(id ("s" ++ p)), $(id ("h" ++ p))⟩ := Go.al $(id ("n" ++ p)) hu; clear hu; tm_at "rd"))
    | ["new", p] => `(tactic| (refine fun $(id p) $(id ("n" ++ p)) => ?_; generalize hu : upd _ $(id p) _ = $(id ("H" ++ p)); obtain ⟨$(id ("s" ++ p)), $(id ("h" ++ p))⟩ := Go.al $(id ("n" ++ p)) hu; clear hu; tm_at "rd"))
    | ["new0", p] => `(tactic| (refine fun $(id p) $(id ("n" ++ p)) => ?_; generalize hu : upd _ $(id p) _ = $(id ("H" ++ p)); obtain ⟨$(id ("s" ++ p)), $(id ("h" ++ p))⟩ := Go.al $(id ("n" ++ p)) hu; clear hu; tm_at "rd"))
    | ["up"] => `(tactic| first
        | assumption | exact sq (by assumption) | exact sqt (by assumption) | exact PlT.sq (by assumption)
        | (refine' Bx.Same.tup (by assumption) ?hh; (case hh => tm_at "up")) | (refine' Same.seq (by assumption) ?hh; (case hh => tm_at "up")) | (refine' Go.get (by assumption) ?hh; (case hh => tm_at "up")) | (refine' dpAll_same (by assumption) ?hh; (case hh => tm_at "up")) | (refine' dp_same (by assumption) ?hh; (case hh => tm_at "up")) | (refine' PlT.same (by assumption) ?hh; (case hh => tm_at "up")) | (refine' Go.srcS (by assumption) ?hh; (case hh => tm_at "up"))
        | (refine' Go.tupB (s := _) (by assumption) (by assumption) ?hh; (case hh => tm_at "up")) | (refine' Go.dkB (s := _) (by assumption) (by assumption) ?hh; (case hh => tm_at "up")) | (refine' Go.insB (s := _) (by assumption) (by assumption) ?hh; (case hh => tm_at "up")) | (refine' Go.pltB (s := _) (by assumption) (by assumption) ?hh; (case hh => tm_at "up"))
        | (refine' Go.getB (by assumption) (by first | assumption | exact Ne.symm (by assumption)) ?hh; (case hh => tm_at "up"))
        | (refine' sq ?hh; (case hh => tm_at "raw")) | (refine' sqt ?hh; (case hh => tm_at "raw")) | (refine' PlT.sq ?hh; (case hh => tm_at "raw")) | fail "up: no fact")
    | ["raw"] => `(tactic| first
        | assumption | (refine' Go.get (by assumption) ?hh; (case hh => tm_at "raw")) | (refine' PlT.same (by assumption) ?hh; (case hh => tm_at "raw")) | (refine' Go.pltB (s := _) (by assumption) (by assumption) ?hh; (case hh => tm_at "raw")) | (refine' Go.getB (by assumption) (by first | assumption | exact Ne.symm (by assumption)) ?hh; (case hh => tm_at "raw")) | fail "raw: no fact")
    | ["sq"] => `(tactic| first | exact .inl (by tm_at "up") | exact .inr (by tm_at "up") | fail "sq: no fact")
    | ["ix", j] => `(tactic| (refine ⟨_, _, _, _, rfl, rfl, by tm_at "up", by exact atI_nat (j := $(Lean.Syntax.mkNumLit j)) rfl, ?_⟩; tm_at "rd"))
    | ["ixh", h] => `(tactic| (refine ⟨_, _, _, _, rfl, rfl, by tm_at "up", by first | exact Go.at_mapV $(id h) | exact Go.at_mapZ $(id h) | exact atI_nat $(id h) | exact Go.at_nat0 $(id h), ?_⟩; tm_at "rd"))
    | ["len"] => `(tactic| (refine ⟨_, _, rfl, by tm_at "sq", ?_⟩; (try rw [List.length_map]); tm_at "rd"))
    | ["tp", p] => `(tactic| (refine ⟨_, _, rfl, .inl ⟨by tm_at "up", fun $(id p) $(id ("n" ++ p)) => ?_⟩⟩; generalize hu : upd _ $(id p) _ = $(id ("H" ++ p)); obtain ⟨$(id ("s" ++ p)), $(id ("h" ++ p))⟩ := Go.al $(id ("n" ++ p)) hu; clear hu; tm_at "rd"))
    | ["tp0", p] => `(tactic| (refine ⟨_, _, rfl, .inl ⟨by tm_at "up", fun $(id p) $(id ("n" ++ p)) => ?_⟩⟩; generalize hu : upd _ $(id p) _ = $(id ("H" ++ p)); obtain ⟨$(id ("s" ++ p)), $(id ("h" ++ p))⟩ := Go.al $(id ("n" ++ p)) hu; clear hu; tm_at "rd"))
    | ["ls", p] => `(tactic| (refine ⟨_, _, rfl, by tm_at "sq", fun $(id p) $(id ("n" ++ p)) => ?_⟩; generalize hu : upd _ $(id p) _ = $(id ("H" ++ p)); obtain ⟨$(id ("s" ++ p)), $(id ("h" ++ p))⟩ := Go.al $(id ("n" ++ p)) hu; clear hu; tm_at "rd"))
    | ["ls0", p] => `(tactic| (refine ⟨_, _, rfl, by tm_at "sq", fun $(id p) $(id ("n" ++ p)) => ?_⟩; generalize hu : upd _ $(id p) _ = $(id ("H" ++ p)); obtain ⟨$(id ("s" ++ p)), $(id ("h" ++ p))⟩ := Go.al $(id ("n" ++ p)) hu; clear hu; tm_at "rd"))
    | ["tf", p] => `(tactic| (refine ⟨_, _, rfl, by tm_at "up", fun $(id p) $(id ("o" ++ p)) $(id ("n" ++ p)) $(id ("d" ++ p)) => ?_⟩; generalize hu : upd _ $(id p) _ = $(id ("H" ++ p)); obtain ⟨$(id ("s" ++ p)), $(id ("h" ++ p))⟩ := Go.alF $(id ("n" ++ p)) $(id ("d" ++ p)) hu; clear hu; tm_at "rd"))
    | ["alF", p] => `(tactic| (refine ⟨by tm_at "sz", fun $(id p) $(id ("o" ++ p)) $(id ("n" ++ p)) $(id ("d" ++ p)) => ?_⟩; generalize hu : upd _ $(id p) _ = $(id ("H" ++ p)); obtain ⟨$(id ("s" ++ p)), $(id ("h" ++ p))⟩ := Go.alF $(id ("n" ++ p)) $(id ("d" ++ p)) hu; clear hu; tm_at "rd"))
    | ["bare", k] => `(tactic| (refine fun $(id k) $(id ("d" ++ k)) $(id ("n" ++ k)) $(id ("nd" ++ k)) $(id ("ne" ++ k)) => ?_; generalize hu : upd (upd _ $(id ("d" ++ k)) _) $(id k) _ = $(id ("H" ++ k)); obtain ⟨$(id ("s" ++ k)), $(id ("h" ++ k))⟩ := Go.bare $(id ("n" ++ k)) $(id ("nd" ++ k)) $(id ("ne" ++ k)) hu; clear hu; walk_at "rd"))
    | ["me"] => `(tactic| (refine ⟨_, _, _, rfl, by tm_at "up", rfl, ?_⟩; walk_at "rd"))
    | ["star"] => `(tactic| ((first | refine ⟨_, _, rfl, .inl (by tm_at "up"), ?_⟩ | refine ⟨_, _, rfl, .inr (by tm_at "up"), ?_⟩ | fail "star"); walk_at "rd"))
    | ["ap0"] => `(tactic| (refine ⟨.inl ⟨rfl, _, by tm_at "up"⟩, ?_⟩; tm_at "rd"))
    | ["ap"] => `(tactic| refine ⟨_, _, _, rfl, rfl, by tm_at "up", by tm_at "sz", ?_⟩)
    | ["un", n] => match n with
      | "2" => `(tactic| (refine ⟨_, _, rfl, by tm_at "up", rfl, _, _, rfl, _, _, rfl, rfl, ?_⟩; tm_at "rd"))
      | _ => `(tactic| (refine ⟨_, _, rfl, by tm_at "up", rfl, _, _, rfl, _, _, rfl, _, _, rfl, rfl, ?_⟩; tm_at "rd"))
    | _ => Lean.Macro.throwUnsupported
abbrev g0 : G := fun _ => none
theorem lk_nil : lk [] = g0 := rfl
/-- theory and question as the law draws them -/
structure ThOk (ns : List Str) (ts : List Tab) (q : Tab) : Prop where
  s : Srch ns ts q ns []
  l5 : ns.length ≤ 5
  qok : TOk q
  ql : q.1.length ≤ 5
section
variable {P : Program} {w : World} {K : PySem.W.Frag} {mg : Str → Option Value} {base : Heap}
@[irreducible] def spExpl (K : PySem.W.Frag) : Sp := fun vs H Q _ => ∃ (th cp : Addr) (ns : List Str) (ts : List Tab) (q : Tab), vs = [.ref th, .ref cp] ∧ ThAt K H th ns ts ∧ TabAt K H cp q ∧ ThOk ns ts q ∧ ∀ R e H', Same H H' → H e = none → CR K H' R ns ts q [] ns.length H e → Q (.ref R) H'
theorem ok_explored {f : Addr} {fd : FuncData} (F : Fun K "_explored" "_explored" s__explored f fd) (C__cases : Cal P w K mg base "_cases" 7 ["names", "tables", "constraint", "decided"] (spCases K 6)) : FnOk P w K mg base CX0 8 f fd ["theory", "constraint"] (spExpl K) := by
  refine F.ok sc__explored (fun vs H Q E h => ?_) (fun cdv A outer s H vs Q E hr h => ?_)
  · unfold spExpl at h
    obtain ⟨th, cp, ns, ts, q, rfl, _⟩ := h
    rfl
  · unfold spExpl at h
    obtain ⟨th, cp, ns, ts, q, rfl, hth, hq, ok, q0⟩ := h
    obtain ⟨na, ta, us, h1, h2, h3, h4⟩ := id hth
    refine ⟨_, (pss_one (ps_ret (pe_cal C__cases (hr.mono (by decide)) (pa_cons (pe_ix ix_tup (pv 0) pe_int (fun _ _ => rfl)) (pa_cons (pe_ix ix_tup (pv 0) pe_int (fun _ _ => rfl)) (pa_cons (pv 1) (pa_cons pe_dnewK pa_nil))))))), ?_⟩
    walk_at "rd"
    tm_at "ix 0"
    tm_at "ix 1"
    refine fun e ne => ?_
    have u := same_new ne (o := .dK [])
    have he := upd_same (H := H) (a := e) (o := .dK [])
    generalize upd H e (.dK []) = H1 at u he ⊢
    have cut0 : ts.map (cutT (lk [])) = ts := by
      conv => rhs; rw [← List.map_id ts]
      exact List.map_congr_left fun t _ => cut_none _ fun _ _ => rfl
    refine ⟨na, ta, cp, e, ns, ns, us, ts, q, [], rfl, Bx.Same.tup u h2, ok.l5, .inr (Bx.Same.tup u h3), by rw [cut0]; exact h4.same u, hq.same u, Nat.le_trans ok.ql (by decide), he, ok.s, fun R H2 s2 cr => ?_⟩
    refine q0 R e H2 (u.trans s2) ne ?_
    rcases cr with ⟨x, tr, c1, c2, c3, c4⟩ | ⟨d', l', c1, c2, c3, c4⟩
    · exact .tree x tr c1 c2 c3 c4
    · exact .found d' l' c1 c2 c3 (c4.imp id u.free)
/-- what certificate gives -/
inductive CertR (K : PySem.W.Frag) (H : Hp) (v : V) (ns : List Str) (ts : List Tab) (q : Tab) : Prop where
  | tree (tr : Tr) : Dp K H v (trD tr) → dep tr ≤ ns.length → Rt ns ts q tr g0 = true → CertR K H v ns ts q
  | none (l : As) : v = .non → FoundOk ns ts q l → CertR K H v ns ts q
inductive CtrR (H0 H : Hp) (v : V) (ns : List Str) (ts : List Tab) (q : Tab) : Prop where
  | none (tr : Tr) : v = .non → Rt ns ts q tr g0 = true → CtrR H0 H v ns ts q
  | found (d : Addr) (l : As) : v = .ref d → H d = some (.dK (asV l)) → FoundOk ns ts q l → H0 d = Option.none → CtrR H0 H v ns ts q
@[irreducible] def spCert (K : PySem.W.Frag) (C : Addr) : Sp := fun vs H Q _ => ∃ (o dk th cp : Addr) (ns : List Str) (ts : List Tab) (q : Tab), vs = [.ref o, .ref th, .ref cp] ∧ H o = some (.ins C dk []) ∧ ThAt K H th ns ts ∧ TabAt K H cp q ∧ ThOk ns ts q ∧ ∀ v H', Same H H' → CertR K H' v ns ts q → Q v H'
theorem ok_cert {C f : Addr} {fd : FuncData} (F : Fun K "certificate" "Rows.certificate" s_Rows_certificate f fd) (C__explored : Cal P w K mg base "_explored" 8 ["theory", "constraint"] (spExpl K)) : FnOk P w K mg base CX0 9 f fd ["self", "theory", "constraint"] (spCert K C) := by
  refine F.ok sc_Rows_certificate (fun vs H Q E h => ?_) (fun cdv A outer s H vs Q E hr h => ?_)
  · unfold spCert at h
    obtain ⟨o, dk, th, cp, ns, ts, q, rfl, _⟩ := h
    rfl
  · unfold spCert at h
    obtain ⟨o, dk, th, cp, ns, ts, q, rfl, ho, hth, hq, ok, q0⟩ := h
    refine ⟨_, (pss_one (ps_ret (pe_ix ix_tup (pe_cal C__explored (hr.mono (by decide)) (pa_cons (pv 1) (pa_cons (pv 2) pa_nil))) pe_int (fun _ _ => rfl)))), ?_⟩
    walk_at "rd"
    show spExpl K _ _ _ _
    unfold spExpl
    refine ⟨th, cp, ns, ts, q, rfl, hth, hq, ok, fun R e H1 s1 ne cr => ?_⟩
    rcases cr with ⟨x, tr, c1, c2, c3, c4⟩ | ⟨d', l', c1, c2, c3, c4⟩
    · refine ⟨_, _, _, _, rfl, rfl, c1, atI_nat (j := 0) rfl, ?_⟩
      exact q0 _ H1 s1 (.tree tr c2 c3 c4)
    · refine ⟨_, _, _, _, rfl, rfl, c1, atI_nat (j := 0) rfl, ?_⟩
      exact q0 _ H1 s1 (.none l' rfl c3)
@[irreducible] def spCtr (K : PySem.W.Frag) (C : Addr) : Sp := fun vs H Q _ => ∃ (o dk th cp : Addr) (ns : List Str) (ts : List Tab) (q : Tab), vs = [.ref o, .ref th, .ref cp] ∧ H o = some (.ins C dk []) ∧ ThAt K H th ns ts ∧ TabAt K H cp q ∧ ThOk ns ts q ∧ ∀ v H', Same H H' → CtrR H H' v ns ts q → Q v H'
theorem ok_ctr {C f : Addr} {fd : FuncData} (F : Fun K "counterexample" "Rows.counterexample" s_Rows_counterexample f fd) (C__explored : Cal P w K mg base "_explored" 8 ["theory", "constraint"] (spExpl K)) : FnOk P w K mg base CX0 9 f fd ["self", "theory", "constraint"] (spCtr K C) := by
  refine F.ok sc_Rows_counterexample (fun vs H Q E h => ?_) (fun cdv A outer s H vs Q E hr h => ?_)
  · unfold spCtr at h
    obtain ⟨o, dk, th, cp, ns, ts, q, rfl, _⟩ := h
    rfl
  · unfold spCtr at h
    obtain ⟨o, dk, th, cp, ns, ts, q, rfl, ho, hth, hq, ok, q0⟩ := h
    refine ⟨_, (pss_one (ps_ret (pe_ix ix_tup (pe_cal C__explored (hr.mono (by decide)) (pa_cons (pv 1) (pa_cons (pv 2) pa_nil))) pe_int (fun _ _ => rfl)))), ?_⟩
    walk_at "rd"
    show spExpl K _ _ _ _
    unfold spExpl
    refine ⟨th, cp, ns, ts, q, rfl, hth, hq, ok, fun R e H1 s1 ne cr => ?_⟩
    rcases cr with ⟨x, tr, c1, c2, c3, c4⟩ | ⟨d', l', c1, c2, c3, c4⟩
    · refine ⟨_, _, _, _, rfl, rfl, c1, atI_nat (j := 1) rfl, ?_⟩
      exact q0 _ H1 s1 (.none tr rfl c4)
    · refine ⟨_, _, _, _, rfl, rfl, c1, atI_nat (j := 1) rfl, ?_⟩
      exact q0 _ H1 s1 (.found d' l' rfl c2 c3 (c4.elim (fun h => by rw [h]; exact ne) id))
@[irreducible] def spAcc (K : PySem.W.Frag) (C : Addr) : Sp := fun vs H Q _ => ∃ (o dk th cp : Addr) (v : V) (ns : List Str) (ts : List Tab) (q : Tab) (tr : Tr), vs = [.ref o, .ref th, .ref cp, v] ∧ H o = some (.ins C dk []) ∧ ThAt K H th ns ts ∧ TabAt K H cp q ∧ ThOk ns ts q ∧ Dp K H v (trD tr) ∧ dep tr ≤ 7 ∧ ∀ H', Same H H' → Q (.bl (Rt ns ts q tr g0)) H'
theorem ok_acc {C f : Addr} {fd : FuncData} (F : Fun K "accepts" "Rows.accepts" s_Rows_accepts f fd) (C__is_right : Cal P w K mg base "_is_right" 10 ["theory", "constraint", "tree", "decided"] (spRight K 8)) : FnOk P w K mg base CX0 11 f fd ["self", "theory", "constraint", "certificate"] (spAcc K C) := by
  refine F.ok sc_Rows_accepts (fun vs H Q E h => ?_) (fun cdv A outer s H vs Q E hr h => ?_)
  · unfold spAcc at h
    obtain ⟨o, dk, th, cp, v, ns, ts, q, tr, rfl, _⟩ := h
    rfl
  · unfold spAcc at h
    obtain ⟨o, dk, th, cp, v, ns, ts, q, tr, rfl, ho, hth, hq, ok, dv, dl, q0⟩ := h
    refine ⟨_, (pss_one (ps_ret (pe_cal C__is_right (hr.mono (by decide)) (pa_cons (pv 1) (pa_cons (pv 2) (pa_cons (pv 3) (pa_cons pe_dnewK pa_nil))))))), ?_⟩
    walk_at "rd"
    refine fun e ne => ?_
    have u := same_new ne (o := .dK [])
    have he := upd_same (H := H) (a := e) (o := .dK [])
    generalize upd H e (.dK []) = H1 at u he ⊢
    refine ⟨th, cp, e, v, ns, ts, q, tr, [], rfl, hth.same u, hq.same u, dp_same u dv, dl, ⟨fun t ht => ⟨(ok.s.tab t ht).1, (ok.s.tab t ht).2.1⟩⟩, by have := ok.l5; omega, by have := ok.ql; omega, he, by decide, fun H2 s2 => ?_⟩
    exact q0 H2 (u.trans s2)
end
end K21
namespace K21
open Go (tupD tupAll Tk tk_same Tk.trans tk_lst dp_tk da_tk All2)
open PySem PySem.Spec PyProof.Rows L2 Bx TL Dx Zx Ow Sup NdefX Px
local macro_rules | `(tactic| walk_at "rd") => `(tactic| repeat (first | refine ⟨rfl, ?_⟩ | refine ⟨_, rfl, ?_⟩ | refine ⟨_, _, rfl, rfl, ?_⟩ | refine ⟨⟨_, rfl⟩, ?_⟩))
local macro_rules
  | `(tactic| tm_at $s:str) => do
    let id (x : String) := Lean.mkIdent (Lean.Name.mkSimple x)
    match s.getString.splitOn " " with
    | ["rd"] => `(tactic| walk_at "rd")
    | ["sz"] => `(tactic| first | exact sz (by decide) | exact szl (by decide) | exact sz (by show _ ≤ 100000; decide) | ((first | refine sz ?_ | refine szl ?_); (try simp only [List.length_map, List.length_append, List.length_cons, List.length_nil, List.length_take, List.length_drop]); omega) | fail "sz: no bound")
    | ["gn", p, h] => `(tactic| (generalize hu : upd _ $(id p) _ = $(id ("H" ++ p)); obtain ⟨$(id ("s" ++ p)), $(id h)⟩ := Go.al $(id ("n" ++ p)) hu; clear hu))
    | ["al", p] => `(tactic| (refine ⟨by tm_at "sz", fun $(id p) $(id ("n" ++ p)) => ?_⟩; generalize hu : upd _ $(id p) _ = $(id ("H" ++ p)); obtain ⟨$(id ("s" ++ p)), $(id ("h" ++ p))⟩ := Go.al $(id ("n" ++ p)) hu; clear hu; tm_at "rd"))
    | ["al0", p] => `(tactic| (refine ⟨by tm_at "sz", fun $(id p) $(id ("n" ++ p)) => ?_⟩; generalize hu : upd _ $(id p) _ = $(id ("H" ++ p)); obtain ⟨$(id ("s" ++ p)), $(id ("h" ++ p))⟩ := Go.al $(id ("n" ++ p)) hu; clear hu; tm_at "rd"))
    | ["new", p] => `(tactic| (refine fun $(id p) $(id ("n" ++ p)) => ?_; generalize hu : upd _ $(id p) _ = $(id ("H" ++ p)); obtain ⟨$(id ("s" ++ p)), $(id ("h" ++ p))⟩ := Go.al $(id ("n" ++ p)) hu; clear hu; tm_at "rd"))
    | ["new0", p] => `(tactic| (refine fun $(id p) $(id ("n" ++ p)) => ?_; generalize hu : upd _ $(id p) _ = $(id ("H" ++ p)); obtain ⟨$(id ("s" ++ p)), $(id ("h" ++ p))⟩ := Go.al $(id ("n" ++ p)) hu; clear hu; tm_at "rd"))
    | ["up"] => `(tactic| first
        | assumption | exact sq (by assumption) | exact sqt (by assumption) | exact PlT.sq (by assumption)
        | (refine' Bx.Same.tup (by assumption) ?hh; (case hh => tm_at "up")) | (refine' Same.seq (by assumption) ?hh; (case hh => tm_at "up")) | (refine' Go.get (by assumption) ?hh; (case hh => tm_at "up")) | (refine' dpAll_same (by assumption) ?hh; (case hh => tm_at "up")) | (refine' dp_same (by assumption) ?hh; (case hh => tm_at "up")) | (refine' PlT.same (by assumption) ?hh; (case hh => tm_at "up")) | (refine' Go.srcS (by assumption) ?hh; (case hh => tm_at "up"))
        | (refine' Go.tupB (s := _) (by assumption) (by assumption) ?hh; (case hh => tm_at "up")) | (refine' Go.dkB (s := _) (by assumption) (by assumption) ?hh; (case hh => tm_at "up")) | (refine' Go.insB (s := _) (by assumption) (by assumption) ?hh; (case hh => tm_at "up")) | (refine' Go.pltB (s := _) (by assumption) (by assumption) ?hh; (case hh => tm_at "up"))
        | (refine' Go.getB (by assumption) (by first | assumption | exact Ne.symm (by assumption)) ?hh; (case hh => tm_at "up"))
        | (refine' sq ?hh; (case hh => tm_at "raw")) | (refine' sqt ?hh; (case hh => tm_at "raw")) | (refine' PlT.sq ?hh; (case hh => tm_at "raw")) | fail "up: no fact")
    | ["raw"] => `(tactic| first
        | assumption | (refine' Go.get (by assumption) ?hh; (case hh => tm_at "raw")) | (refine' PlT.same (by assumption) ?hh; (case hh => tm_at "raw")) | (refine' Go.pltB (s := _) (by assumption) (by assumption) ?hh; (case hh => tm_at "raw")) | (refine' Go.getB (by assumption) (by first | assumption | exact Ne.symm (by assumption)) ?hh; (case hh => tm_at "raw")) | fail "raw: no fact")
    | ["sq"] => `(tactic| first | exact .inl (by tm_at "up") | exact .inr (by tm_at "up") | fail "sq: no fact")
    | ["ix", j] => `(tactic| (refine ⟨_, _, _, _, rfl, rfl, by tm_at "up", by exact atI_nat (j := $(Lean.Syntax.mkNumLit j)) rfl, ?_⟩; tm_at "rd"))
    | ["ixh", h] => `(tactic| (refine ⟨_, _, _, _, rfl, rfl, by tm_at "up", by first | exact Go.at_mapV $(id h) | exact Go.at_mapZ $(id h) | exact atI_nat $(id h) | exact Go.at_nat0 $(id h), ?_⟩; tm_at "rd"))
    | ["len"] => `(tactic| (refine ⟨_, _, rfl, by tm_at "sq", ?_⟩; (try rw [List.length_map]); tm_at "rd"))
    | ["tp", p] => `(tactic| (refine ⟨_, _, rfl, .inl ⟨by tm_at "up", fun $(id p) $(id ("n" ++ p)) => ?_⟩⟩; generalize hu : upd _ $(id p) _ = $(id ("H" ++ p)); obtain ⟨$(id ("s" ++ p)), $(id ("h" ++ p))⟩ := Go.al $(id ("n" ++ p)) hu; clear hu; tm_at "rd"))
    | ["tp0", p] => `(tactic| (refine ⟨_, _, rfl, .inl ⟨by tm_at "up", fun $(id p) $(id ("n" ++ p)) => ?_⟩⟩; generalize hu : upd _ $(id p) _ = $(id ("H" ++ p)); obtain ⟨$(id ("s" ++ p)), $(id ("h" ++ p))⟩ := Go.al $(id ("n" ++ p)) hu; clear hu; tm_at "rd"))
    | ["ls", p] => `(tactic| (refine ⟨_, _, rfl, by tm_at "sq", fun $(id p) $(id ("n" ++ p)) => ?_⟩; generalize hu : upd _ $(id p) _ = $(id ("H" ++ p)); obtain ⟨$(id ("s" ++ p)), $(id ("h" ++ p))⟩ := Go.al $(id ("n" ++ p)) hu; clear hu; tm_at "rd"))
    | ["ls0", p] => `(tactic| (refine ⟨_, _, rfl, by tm_at "sq", fun $(id p) $(id ("n" ++ p)) => ?_⟩; generalize hu : upd _ $(id p) _ = $(id ("H" ++ p)); obtain ⟨$(id ("s" ++ p)), $(id ("h" ++ p))⟩ := Go.al $(id ("n" ++ p)) hu; clear hu; tm_at "rd"))
    | ["tf", p] => `(tactic| (refine ⟨_, _, rfl, by tm_at "up", fun $(id p) $(id ("o" ++ p)) $(id ("n" ++ p)) $(id ("d" ++ p)) => ?_⟩; generalize hu : upd _ $(id p) _ = $(id ("H" ++ p)); obtain ⟨$(id ("s" ++ p)), $(id ("h" ++ p))⟩ := Go.alF $(id ("n" ++ p)) $(id ("d" ++ p)) hu; clear hu; tm_at "rd"))
    | ["alF", p] => `(tactic| (refine ⟨by tm_at "sz", fun $(id p) $(id ("o" ++ p)) $(id ("n" ++ p)) $(id ("d" ++ p)) => ?_⟩; generalize hu : upd _ $(id p) _ = $(id ("H" ++ p)); obtain ⟨$(id ("s" ++ p)), $(id ("h" ++ p))⟩ := Go.alF $(id ("n" ++ p)) $(id ("d" ++ p)) hu; clear hu; tm_at "rd"))
    | ["bare", k] => `(tactic| (refine fun $(id k) $(id ("d" ++ k)) $(id ("n" ++ k)) $(id ("nd" ++ k)) $(id ("ne" ++ k)) => ?_; generalize hu : upd (upd _ $(id ("d" ++ k)) _) $(id k) _ = $(id ("H" ++ k)); obtain ⟨$(id ("s" ++ k)), $(id ("h" ++ k))⟩ := Go.bare $(id ("n" ++ k)) $(id ("nd" ++ k)) $(id ("ne" ++ k)) hu; clear hu; walk_at "rd"))
    | ["me"] => `(tactic| (refine ⟨_, _, _, rfl, by tm_at "up", rfl, ?_⟩; walk_at "rd"))
    | ["star"] => `(tactic| ((first | refine ⟨_, _, rfl, .inl (by tm_at "up"), ?_⟩ | refine ⟨_, _, rfl, .inr (by tm_at "up"), ?_⟩ | fail "star"); walk_at "rd"))
    | ["ap0"] => `(tactic| (refine ⟨.inl ⟨rfl, _, by tm_at "up"⟩, ?_⟩; tm_at "rd"))
    | ["ap"] => `(tactic| refine ⟨_, _, _, rfl, rfl, by tm_at "up", by tm_at "sz", ?_⟩)
    | ["un", n] => match n with
      | "2" => `(tactic| (refine ⟨_, _, rfl, by tm_at "up", rfl, _, _, rfl, _, _, rfl, rfl, ?_⟩; tm_at "rd"))
      | _ => `(tactic| (refine ⟨_, _, rfl, by tm_at "up", rfl, _, _, rfl, _, _, rfl, _, _, rfl, rfl, ?_⟩; tm_at "rd"))
    | _ => Lean.Macro.throwUnsupported
theorem op_inDK {X : Cx} {K : PySem.W.Frag} (h : X.K = K) (hu : X.A.units + 65 < cLine) : OpR X (compareOp .In) (rInD K) := h ▸ op_inD hu
theorem seq_at {j n : Nat} (h : j < n) : seqIndex? (j : Int) n = some j := by
  unfold seqIndex?
  have a : ¬ ((j : Int) < 0) := by omega
  simp only [if_neg a]
  rw [if_pos (by rw [Bool.and_eq_true_iff, decide_eq_true_iff, decide_eq_true_iff]; omega), Int.toNat_natCast]
theorem da_erase {K : PySem.W.Frag} {H : Hp} {α : Type} {f : α → PyData} : ∀ {vs : List V} {ls : List α} {j : Nat}, DpAll K H vs (ls.map f) → DpAll K H (vs.eraseIdx j) ((ls.eraseIdx j).map f)
  | _, [], _, h => by
    cases h
    exact .nil
  | _, l :: ls, 0, h => by
    cases h with
    | cons h1 h2 => exact h2
  | _, l :: ls, j + 1, h => by
    cases h with
    | cons h1 h2 => exact .cons h1 (da_erase h2)
def solR (ns : List Str) (ts : List Tab) : List Row := (rowsN ns.length).filter fun r => ts.all (fitT (val ns r))
/-- the solutions as a list of dicts -/
def SolAt (H : Hp) (a : Addr) (ns : List Str) (rs : List Row) : Prop := ∃ us, H a = some (.lst us) ∧ All2 (fun v r => ∃ d, v = .ref d ∧ H d = some (.dK (asV (ns.zip r)))) us rs
theorem SolAt.same {H H' : Hp} {a : Addr} {ns : List Str} {rs : List Row} (s : Same H H') : SolAt H a ns rs → SolAt H' a ns rs := fun ⟨us, h, k⟩ => ⟨us, s _ _ h, k.mono fun _ _ ⟨d, e, h⟩ => ⟨d, e, s _ _ h⟩⟩
theorem SolAt.but {H H' : Hp} {a src : Addr} {ns : List Str} {rs : List Row} (hA : Src H src) (n : a ≠ src) (s : SameBut src H H') : SolAt H a ns rs → SolAt H' a ns rs := fun ⟨us, h, k⟩ => ⟨us, s _ _ n h, k.mono fun _ _ ⟨d, e, h⟩ => ⟨d, e, Go.dkB hA s h⟩⟩
section
variable {P : Program} {w : World} {K : PySem.W.Frag} {mg : Str → Option Value} {base : Heap}
@[irreducible] def spSol (K : PySem.W.Frag) : Sp := fun vs H Q _ => ∃ (th : Addr) (ns : List Str) (ts : List Tab), vs = [.ref th] ∧ ThAt K H th ns ts ∧ ns.Nodup ∧ ns.length ≤ 5 ∧ (∀ t ∈ ts, t.1.length ≤ 20 ∧ ∀ z ∈ t.1, z ∈ ns) ∧ ts.length ≤ 100 ∧ ∀ a H', Same H H' → H a = none → SolAt H' a ns (solR ns ts) → Q (.ref a) H'
set_option maxHeartbeats 1000000 in
theorem ok_sol {f : Addr} {fd : FuncData} (F : Fun K "_law_solutions" "_law_solutions" s__law_solutions f fd) (m_len : mg "len" = none) (C__law_all_rows : Cal P w K mg base "_law_all_rows" 1 ["_law_count"] (spRows K)) (C__law_values : Cal P w K mg base "_law_values" 1 ["_law_names", "_law_row"] (spValues K)) (C__law_fits : Cal P w K mg base "_law_fits" 1 ["_law_table_here", "_law_values_here"] (spFits K)) : FnOk P w K mg base CX0 2 f fd ["_law_theory"] (spSol K) := by
  refine F.ok sc__law_solutions (fun vs H Q E h => ?_) (fun cdv A outer s H vs Q E hr h => ?_)
  · unfold spSol at h
    obtain ⟨th, ns, ts, rfl, _⟩ := h
    rfl
  · unfold spSol at h
    obtain ⟨th, ns, ts, rfl, hth, nd, nl, sub, tl, q⟩ := h
    obtain ⟨na, ta, us, h1, h2, h3, h4⟩ := id hth
    refine ⟨_, (pss_cons (ps_set (i := 1) sc__law_solutions.nd rfl (Or.inl rfl) (pe_lst pa_nil))
    (pss_cons (ps_for PassesOwn.never rfl (pi_list (pe_cal C__law_all_rows (hr.mono (by decide)) (pa_cons (pe_callB call_len_seq (by rfl) m_len PySem.boot_len (pa_cons (pe_ix ix_tup (pv 0) pe_int (fun _ _ => rfl)) pa_nil)) pa_nil))) (pg_name (i := 2) sc__law_solutions.nd rfl (Or.inl rfl))
      (pss_cons (ps_set (i := 3) sc__law_solutions.nd rfl (Or.inr rfl) (pe_cal C__law_values (hr.mono (by decide)) (pa_cons (pe_ix ix_tup (pv 0) pe_int (fun _ _ => rfl)) (pa_cons (pv 2) pa_nil))))
    (pss_one (ps_if (pt_cmpR op_eq (pe_callB call_len_seq (by rfl) m_len PySem.boot_len (pa_cons (pe_lc (own := [("_law_table_here", 4)]) rfl sc__law_solutions.nd (pi_tup (pe_ix ix_tup (pv 0) pe_int (fun _ _ => rfl))) (blkOk_by (N := n__law_solutions) (sc := defScope s__law_solutions) (by decide +kernel)) (fun _ _ _ _ _ => pg_name (i := 4) sc__law_solutions.nd rfl (Or.inl rfl)) (fun _ _ _ _ _ => pts_one (pt_not (pt_val (pe_cal C__law_fits (hr.mono (by decide)) (pa_cons (pv 4) (pa_cons (pv 3) pa_nil)))))) (fun _ _ _ _ _ => (pv 4))) pa_nil)) pe_int (nomark _))
      (pss_one (ps_expr (pe_bm PySem.F.plainAttrs_list PySem.F.slot_list_append PySem.F.type_list_append mt_append (pv 1) (pa_cons (pv 3) pa_nil))))
      pss_nil))))
    (pss_one (ps_ret (pv 1))))), ?_⟩
    walk_at "rd"
    tm_at "al f0"
    tm_at "ix 0"
    tm_at "len"
    show spRows K _ _ _ _
    unfold spRows
    refine ⟨ns.length, rfl, nl, fun R ws H1 s1 nR hR dR => ?_⟩
    have num : (rowsN ns.length).length ≤ 243 := by
      rw [rowsN_num]
      exact Nat.pow_le_pow_right (by decide) nl
    have wl : ws.length = (rowsN ns.length).length := by rw [da_len dR, List.length_map]
    have f0R : f0 ≠ R := fun e => by rw [← e, hf0] at nR; cases nR
    have s01 : Same H H1 := sf0.trans s1
    have hR1 : H1 R = some (.lst ws) := hR
    have hf1 := s1 _ _ hf0
    refine ⟨R, rfl, ⟨_, sq hR⟩, for_it walk_list (fun i σ H' => ∃ o2 o3 : Option V, σ = [some (.ref th), some (.ref f0), o2, o3, none] ∧ SameBut f0 H1 H' ∧ ∃ us', H' f0 = some (.lst us') ∧ All2 (fun v r => ∃ d, v = .ref d ∧ H' d = some (.dK (asV (ns.zip r)))) us' (((rowsN ns.length).take i).filter fun r => ts.all (fitT (val ns r)))) ⟨none, none, rfl, fun _ _ _ h => h, [], hf1, .nil⟩ (fun i σ H' _ ⟨_, _, _, s, _⟩ => sq (s _ _ (Ne.symm f0R) hR)) ?_ ?_⟩
    · rintro i x σ H2a H2 hi ⟨o2, o3, rfl, b2, us', hL, hU⟩ ⟨rfl, hx⟩
      obtain ⟨r, hr0, dr⟩ := da_atM dR hx
      obtain ⟨rq, rfl, hrq⟩ := row_dp dr
      have rl := rowsN_len _ r (List.mem_of_getElem? hr0)
      have kp := kp_but (K := K) hf1 b2
      have s02 : Same H H2 := b2.same s01 nf0
      have ul : us'.length < 1000 := by
        rw [hU.len]
        exact Nat.lt_of_le_of_lt (Nat.le_trans (List.length_filter_le _ _) (List.length_take_le' _ _)) (by omega)
      have tk1 : ((rowsN ns.length).take (i + 1)).filter (fun r => ts.all (fitT (val ns r))) = ((rowsN ns.length).take i).filter (fun r => ts.all (fitT (val ns r))) ++ if ts.all (fitT (val ns r)) = true then [r] else [] := by
        rw [List.take_add_one, hr0, List.filter_append]
        congr 1
        by_cases c : ts.all (fitT (val ns r)) = true <;> simp [List.filter, c]
      walk_at "rd"
      tm_at "ix 0"
      show spValues K _ _ _ _
      unfold spValues
      refine ⟨na, rq, ns, r, rfl, .inr (Bx.Same.tup s02 h2), .inr (kp.1 _ _ hrq), rl, nd, by omega, fun d H3 s3 nd3 hd => ?_⟩
      have s03 := s02.trans s3
      walk_at "rd"
      tm_at "ix 1"
      refine ⟨⟨_, Bx.Same.tup s03 h3⟩, fun D nD => ?_⟩
      refine Go.lc_rel walk_tup ts (fun t => !fitT (val ns r) t) (fun _ _ _ => True) h4.len.symm (by rw [h4.len]; omega) nD (fun _ _ _ _ _ h => h) (fun _ _ _ _ _ _ h => h) (fun H' s => Bx.Same.tup (s03.trans s) h3) Go.yat ?_ ?_
      · rintro j t v H4a H4 hte s4 ⟨rfl, hv⟩ Z Z' hZ hZ'
        obtain ⟨t', ht', p, rfl, hp⟩ := (h4.same (s03.trans s4)).at hv
        rw [hte] at ht'
        cases ht'
        refine ⟨rfl, ?_⟩
        walk_at "rd"
        show spFits K _ _ _ _
        unfold spFits
        refine ⟨p, d, t, val ns r, ns, rfl, hp, vat_zip rl (s4 _ _ hd), sub t (List.mem_of_getElem? hte), fun H5 s5 => ?_⟩
        refine ⟨_, rfl, ?_⟩
        cases c : fitT (val ns r) t with
        | true =>
          exact hZ' _ (by rw [c]; rfl) s5
        | false =>
          walk_at "rd"
          exact hZ _ _ (by rw [c]; rfl) s5 trivial
      · rintro H4 ws4 s4 hW hws
        have wl4 := hws.len
        have we : decide (ws4.length = 0) = ts.all (fitT (val ns r)) := by
          rw [wl4, ← filter_none_len]
        walk_at "rd"
        tm_at "len"
        have b4 : SameBut f0 H1 H4 := fun b o n h => s4 _ _ (s3 _ _ (b2 _ _ n h))
        have hL4 := s4 _ _ (s3 _ _ hL)
        have hU4 : All2 (fun v r => ∃ d0, v = .ref d0 ∧ H4 d0 = some (.dK (asV (ns.zip r)))) us' (((rowsN ns.length).take i).filter fun r => ts.all (fitT (val ns r))) := hU.mono fun _ _ ⟨d, e, h⟩ => ⟨d, e, s4 _ _ (s3 _ _ h)⟩
        refine ite2 (fun c => ?_) (fun c => ?_)
        · have c1 := int_t c
          rw [decide_eq_true (by omega)] at we
          walk_at "rd"
          refine ⟨.inl ⟨rfl, _, sq hL4⟩, ?_⟩
          walk_at "rd"
          refine ⟨_, _, _, rfl, rfl, hL4, szl (by omega), ?_⟩
          refine ⟨_, _, rfl, fun b o n h => by rw [upd_ne n]; exact b4 b o n h, us' ++ [.ref d], upd_same, ?_⟩
          rw [tk1, if_pos we.symm]
          have nf : ∀ (e : Addr) (kvs : List (Key × V)), H4 e = some (.dK kvs) → e ≠ f0 := fun e kvs h h2 => by rw [h2, hL4] at h; cases h
          have hU5 : All2 (fun v r => ∃ d0, v = .ref d0 ∧ (upd H4 f0 (.lst (us' ++ [.ref d]))) d0 = some (.dK (asV (ns.zip r)))) us' (((rowsN ns.length).take i).filter fun r => ts.all (fitT (val ns r))) := hU4.mono fun _ _ ⟨d, e, h⟩ => ⟨d, e, by rw [upd_ne (nf _ _ h)]; exact h⟩
          have hd4 := s4 _ _ hd
          have hU6 : ∃ d0, V.ref d = .ref d0 ∧ (upd H4 f0 (.lst (us' ++ [.ref d]))) d0 = some (.dK (asV (ns.zip r))) := ⟨d, rfl, by rw [upd_ne (nf _ _ hd4)]; exact hd4⟩
          exact hU5.app (All2.one hU6)
        · have c1 := int_f c
          rw [decide_eq_false (by omega)] at we
          walk_at "rd"
          refine ⟨_, _, rfl, b4, us', hL4, ?_⟩
          rw [tk1, if_neg (by rw [← we]; decide), List.append_nil]
          exact hU4
    · rintro σ H2 ⟨o2, o3, rfl, b2, us', hL, hU⟩
      rw [wl, List.take_length] at hU
      walk_at "rd"
      exact q f0 H2 (b2.same s01 nf0) nf0 ⟨us', hL, hU⟩
@[irreducible] def spQuest (K : PySem.W.Frag) : Sp := fun vs H Q _ => ∃ (src th a : Addr) (ns : List Str) (ts : List Tab) (rs : List Row), vs = [.ref src, .ref th, .ref a] ∧ Src H src ∧ ThAt K H th ns ts ∧ ns.Nodup ∧ ns.length ≤ 5 ∧ (∀ t ∈ ts, TOk t ∧ t.1.length ≤ 5 ∧ ∀ z ∈ t.1, z ∈ ns) ∧ ts.length ≤ 100 ∧ a ≠ src ∧ SolAt H a ns rs ∧ (∀ r ∈ rs, r.length = ns.length) ∧ rs.length ≤ 1000 ∧
  ∀ p (q : Tab) H', SameBut src H H' → Src H' src → TabAt K H' p q → TOk q → q.1.length ≤ 5 → (∀ z ∈ q.1, z ∈ ns) → Q (.ref p) H'
set_option maxHeartbeats 2000000 in
theorem ok_quest {f : Addr} {fd : FuncData} (F : Fun K "_law_question" "_law_question" s__law_question f fd) (m_len : mg "len" = none) (m_tuple : mg "tuple" = none) (C__law_draw : CDraw P w K mg base) (C__law_some : Cal P w K mg base "_law_some" 2 ["_law_source_here", "_law_names", "_law_most"] (spSome K)) (C__law_table : Cal P w K mg base "_law_table" 3 ["_law_source_here", "_law_names"] (spTable K)) (C__law_all_rows : Cal P w K mg base "_law_all_rows" 1 ["_law_count"] (spRows K)) : FnOk P w K mg base CX0 4 f fd ["_law_source_here", "_law_theory", "_law_solutions_here"] (spQuest K) := by
  refine F.ok sc__law_question (fun vs H Q E h => ?_) (fun cdv A outer s H vs Q E hr h => ?_)
  · unfold spQuest at h
    obtain ⟨src, th, a, ns, ts, rs, rfl, _⟩ := h
    rfl
  · unfold spQuest at h
    obtain ⟨src, th, a, ns, ts, rs, rfl, hA, hth, nd, nl, tok, tl, na_, hsol, rlen, rl, q⟩ := h
    have hu := hu_of hr
    obtain ⟨na, ta, us, h1, h2, h3, h4⟩ := id hth
    refine ⟨_, (pss_cons (ps_set (i := 3) sc__law_question.nd rfl (Or.inr rfl) (pe_callTy (T := "tuple") call_tupleF (by rfl) m_tuple (by decide +kernel) (pa_cons (pe_cal C__law_some (hr.mono (by decide)) (pa_cons (pv 0) (pa_cons (pe_ix ix_tup (pv 1) pe_int (fun _ _ => rfl)) (pa_cons pe_int pa_nil)))) pa_nil)))
    (pss_cons (ps_set (i := 4) sc__law_question.nd rfl (Or.inr rfl) (pe_cal C__law_draw (hr.mono (by decide)) (pa_cons (pv 0) (pa_cons pe_int pa_nil))))
    (pss_cons (ps_if (pt_cmpR op_eq (pv 4) pe_int (nomark _))
      (pss_one (ps_ret (pe_cal C__law_table (hr.mono (by decide)) (pa_cons (pv 0) (pa_cons (pe_ix ix_tup (pv 1) pe_int (fun _ _ => rfl)) pa_nil)))))
      pss_nil)
    (pss_cons (ps_if (PW.pt (pw_and (pt_cmpR op_eq (pv 4) pe_int (nomark _)) (pw_and1 (pt_cmpR op_gt (pe_callB call_len_seq (by rfl) m_len PySem.boot_len (pa_cons (pe_ix ix_tup (pv 1) pe_int (fun _ _ => rfl)) pa_nil)) pe_int (nomark _)))))
      (pss_one (ps_ret (pe_ix ix_tup (pe_ix ix_tup (pv 1) pe_int (fun _ _ => rfl)) (pe_cal C__law_draw (hr.mono (by decide)) (pa_cons (pv 0) (pa_cons (pe_callB call_len_seq (by rfl) m_len PySem.boot_len (pa_cons (pe_ix ix_tup (pv 1) pe_int (fun _ _ => rfl)) pa_nil)) pa_nil))) (fun _ _ => rfl))))
      pss_nil)
    (pss_cons (ps_set (i := 5) sc__law_question.nd rfl (Or.inr rfl) (pe_lc (own := [("_law_values_here", 7)]) (tt := tYes) rfl sc__law_question.nd (pi_list (pv 2)) (blkOk_by (N := n__law_question) (sc := defScope s__law_question) (by decide +kernel)) (fun _ _ _ _ _ => pg_name (i := 7) sc__law_question.nd rfl (Or.inr rfl)) (fun _ _ _ _ _ => pts_nil) (fun _ _ _ _ _ => (pe_callTy (T := "tuple") (call_tuple_ofK (K := K) rfl) (by rfl) m_tuple (by decide +kernel) (pa_cons (pe_lc (own := [("_law_name", 9)]) (wi := iTup K (tVar 3)) (tt := tYes) rfl sc__law_question.nd (pi_tup (pv 3)) (Nx.blkOk_nest (N := n__law_question) (sc := defScope s__law_question) rfl (by decide +kernel)) (fun _ _ _ _ _ => pg_name (i := 9) sc__law_question.nd rfl (Or.inl rfl)) (fun _ _ _ _ _ => pts_nil) (fun _ _ _ _ _ => (pe_dget hu (pv 7) (pv 9) (fun _ _ => rfl)))) pa_nil)))))
    (pss_cons (ps_setLc (i := 6) (own := [("_law_row", 8)]) rfl sc__law_question.nd rfl rfl (sw_true rfl rfl rfl (by decide +kernel)) (pi_list (pe_cal C__law_all_rows (hr.mono (by decide)) (pa_cons (pe_callB call_len_seq (by rfl) m_len PySem.boot_len (pa_cons (pv 3) pa_nil)) pa_nil))) (blkOk_by (N := n__law_question) (sc := defScope s__law_question) (by decide +kernel)) (fun _ _ _ _ _ => pg_name (i := 8) sc__law_question.nd rfl (Or.inl rfl)) (fun _ _ _ _ _ => pts_one (PW.pt (pw_or (pt_cmpR (op_inDK (K := K) rfl (room hr)) (pv 8) (pv 5) (by rfl)) (pw_or1 (PW.pt (pw_and (pt_cmpR op_eq (pv 4) pe_int (nomark _)) (pw_and1 (pt_cmpR op_eq (pe_cal C__law_draw (hr.mono (by decide)) (pa_cons (pv 0) (pa_cons pe_int pa_nil))) pe_int (nomark _))))))))) (fun _ _ _ _ _ => (pv 8)))
    (pss_cons (ps_if (PW.pt (pw_and (pt_cmpR op_eq (pv 4) pe_int (nomark _)) (pw_and1 (pt_cmpR op_gt (pe_callB call_len_seq (by rfl) m_len PySem.boot_len (pa_cons (pv 6) pa_nil)) pe_int (nomark _)))))
      (pss_one (ps_expr (pe_bm PySem.F.plainAttrs_list PySem.F.slot_list_pop PySem.F.type_list_pop mt_popAt (pv 6) (pa_cons (pe_cal C__law_draw (hr.mono (by decide)) (pa_cons (pv 0) (pa_cons (pe_callB call_len_seq (by rfl) m_len PySem.boot_len (pa_cons (pv 6) pa_nil)) pa_nil))) pa_nil))))
      pss_nil)
    (pss_one (ps_ret (pe_tup (pa_cons (pv 3) (pa_cons (pe_callTy (T := "tuple") call_tuple_of (by rfl) m_tuple (by decide +kernel) (pa_cons (pv 6) pa_nil)) pa_nil)))))))))))), ?_⟩
    walk_at "rd"
    tm_at "ix 0"
    show spSome K _ _ _ _
    unfold spSome
    refine ⟨src, na, ns, 3, rfl, hA, .inr h2, by omega, by decide, fun N ms H1 b1 hA1 nN hN ml3 sub => ?_⟩
    have ml : ms.length ≤ 3 := by omega
    have nNs : N ≠ src := fun e => by rw [e] at nN; exact (src_ne hA nN) rfl
    walk_at "rd"
    have hNs : SqL K H1 N (ms.map V.str) := sq hN
    tm_at "tf t1"
    have hA2 := src_same hA1 st1
    refine draw_of hA2 ⟨by decide, by decide⟩ fun way H3 _ _ b3 hA3 => ?_
    have b03 : SameBut src H H3 := b1.trans ((Bx.Same.but st1).trans b3)
    have kp03 : Kp K H H3 := Go.kp_but hA b03
    walk_at "rd"
    refine ite2 (fun _ => ?_) (fun _ => ?_)
    · walk_at "rd"
      have h13 := kp03.1 _ _ h1
      tm_at "ix 0"
      show spTable K _ _ _ _
      unfold spTable
      refine ⟨src, na, ns, rfl, hA3, kp03.1 _ _ h2, by omega, fun p t H4 b4 hA4 hp s1 s2 s3 => ?_⟩
      exact q p t H4 (b03.trans b4) hA4 hp ⟨nd.sublist s1, s3⟩ (by omega) (fun z hz => s1.subset hz)
    dsimp only [tNext, tSeq, tIfS]
    refine and_caseS (b1 := decide (V.int way = V.int 1)) (b2 := decide ((0 : Int) < (ts.length : Nat))) ?_ ?_ ?_
    · intro R hR
      walk_at "rd"
      exact hR _ (Same.refl _)
    · intro H4 s4 R hR
      have h14 := Bx.Same.tup s4 (kp03.1 _ _ h1)
      have h34 := Bx.Same.tup s4 (kp03.1 _ _ h3)
      walk_at "rd"
      tm_at "ix 1"
      refine ⟨_, _, rfl, .inr h34, ?_⟩
      rw [h4.len]
      walk_at "rd"
      exact hR _ (Same.refl _)
    intro H4 s4
    have b04 := b03.trans (Bx.Same.but s4)
    have hA4 := src_same hA3 s4
    have kp04 : Kp K H H4 := Go.kp_but hA b04
    have h14 := kp04.1 _ _ h1
    have h34 := kp04.1 _ _ h3
    refine ite2 (fun c => ?_) (fun _ => ?_)
    · have c2 := of_decide_eq_true (Bool.and_eq_true_iff.mp c).2
      walk_at "rd"
      tm_at "ix 1"
      tm_at "ix 1"
      refine ⟨_, _, rfl, .inr h34, ?_⟩
      rw [h4.len]
      walk_at "rd"
      refine draw_of hA4 ⟨c2, by omega⟩ fun i H5 i0 i1 b5 hA5 => ?_
      obtain ⟨j, rfl⟩ : ∃ j : Nat, i = (j : Int) := ⟨i.toNat, by omega⟩
      have et := List.getElem?_eq_getElem (show j < ts.length by omega)
      obtain ⟨u, hu, p, rfl, hp⟩ := h4.at' et
      have b05 := b04.trans b5
      have kp05 : Kp K H H5 := Go.kp_but hA b05
      obtain ⟨o1, o2, o3⟩ := tok _ (List.mem_of_getElem? et)
      refine ⟨_, _, _, _, rfl, rfl, kp05.1 _ _ h3, atI_nat hu, ?_⟩
      exact q p _ H5 b05 hA5 (hp.kp kp05) o1 o2 o3
    have hsol4 := hsol.but hA na_ b04
    obtain ⟨sv, hsv, hso⟩ := id hsol4
    have ht14 := PlT.same s4 (Go.pltB hA2 b3 ht1)
    walk_at "rd"
    refine ⟨⟨_, sq hsv⟩, fun D nD => ?_⟩
    refine Go.lc_rel walk_list rs (fun _ => true) (fun H v r => Dp K H v (rowD (pk ns r ms))) hso.len.symm (by rw [hso.len]; omega) nD (fun _ _ _ _ s h => dp_same s h) (fun _ _ _ _ _ hD h => dp_tk (tk_lst hD) _ _ (tup_row _) h) (fun H' s => sq (s _ _ hsv)) Go.yat ?_ ?_
    · rintro j r v H5a H5 hr0 s5 ⟨rfl, hv⟩ Z Z' hZ _
      obtain ⟨r', hr1, d, rfl, hd⟩ := hso.at hv
      rw [hr0] at hr1
      cases hr1
      have rlr := rlen r (List.mem_of_getElem? hr0)
      have hd5 := s5 _ _ hd
      have ht15 := PlT.same s5 ht14
      walk_at "rd"
      refine ⟨⟨_, ht15.sq⟩, fun D2 nD2 => ?_⟩
      refine Go.lc_rel walk_tup ms (fun _ => true) (fun H v z => v = .int (val ns r z)) (by rw [List.length_map]) (by rw [List.length_map]; omega) nD2 (fun _ _ _ _ _ h => h) (fun _ _ _ _ _ _ h => h) (fun H' s => (PlT.same s ht15).sq) Go.yat ?_ ?_
      · rintro j2 z v2 H6a H6 hz s6 ⟨rfl, hv2⟩ Z2 Z2' hZ2 _
        rw [List.getElem?_map, hz] at hv2
        cases hv2
        refine ⟨rfl, ?_⟩
        walk_at "rd"
        refine ⟨d, .int (val ns r z), rfl, ?_, ?_⟩
        · have e := val_as (ns.zip r) z
          rw [lk_zip rlr (sub.subset (List.mem_of_getElem? hz))] at e
          have g := DGet.k (k := .inr z) (s6 _ _ hd5)
          rw [e] at g
          exact g
        · exact hZ2 _ _ rfl (Same.refl _) rfl
      · rintro H6 ws s6 hW hws
        rw [List.filter_eq_self.mpr fun _ _ => rfl] at hws
        have ew : ws = (pk ns r ms).map V.int := by
          unfold pk
          rw [List.map_map]
          exact Go.all2_eq hws
        subst ew
        refine ⟨_, _, rfl, .inl ⟨sq hW, fun e ne => ?_⟩⟩
        have se := same_new ne (o := .tup ((pk ns r ms).map V.int))
        exact hZ _ _ rfl (s6.trans se) (dp_row (sqt upd_same))
    · rintro H5 tv5 s5 hT hts5
      rw [List.filter_eq_self.mpr fun _ _ => rfl] at hts5
      have dT : DpAll K H5 tv5 ((rs.map fun r => pk ns r ms).map rowD) := by
        rw [List.map_map]
        exact Go.all2_dp hts5
      have ht15 := PlT.same s5 ht14
      have hA5 := src_same hA4 s5
      walk_at "rd"
      refine ⟨_, _, rfl, .inr ht15.sq, ?_⟩
      rw [List.length_map]
      walk_at "rd"
      show spRows K _ _ _ _
      unfold spRows
      refine ⟨ms.length, rfl, by omega, fun R ws H6 s6 nR hR dR => ?_⟩
      have hA6 := src_same hA5 s6
      have b46 : SameBut src H4 H6 := Bx.Same.but (s5.trans s6)
      have nRs : R ≠ src := fun e => by rw [e] at nR; exact (src_ne hA5 nR) rfl
      have wl : ws.length = (rowsN ms.length).length := by rw [da_len dR, List.length_map]
      have un : (rowsN ms.length).length ≤ 27 := by
        rw [rowsN_num]
        exact Nat.pow_le_pow_right (by decide) ml
      have dT6 := dpAll_same s6 dT
      have hT6 := s6 _ _ hT
      refine ⟨R, rfl, ⟨_, sq hR⟩, fun D2 hD2 => ?_⟩
      have nDs := src_ne hA6 hD2
      have nD2 : D ≠ src := src_ne hA4 nD |>.symm
      refine lc_it walk_list (fun i H' => SameBut src H6 H' ∧ Src H' src ∧ ∃ (vs : List V) (rs : List Row), H' D2 = some (.lst vs) ∧ DpAll K H6 vs (rs.map rowD) ∧ rs.Sublist ((rowsN ms.length).take i)) ⟨Bx.Same.but (same_new hD2), src_upd hA6 nDs, [], [], upd_same, .nil, List.nil_sublist _⟩ (fun i H' _ h => sq (h.1 _ _ nRs hR)) ?_ ?_
      · rintro i v H7a H7 hi ⟨s7, hA7, vs, rs1, hV, dv, sb⟩ ⟨rfl, hx⟩
        obtain ⟨r, hr0, dr⟩ := da_atM dR hx
        obtain ⟨rq, rfl, hrq⟩ := row_dp dr
        have vl : vs.length ≤ 27 := by
          rw [da_len dv, List.length_map]
          have z1 := sb.length_le
          have z2 := List.length_take_le' i (rowsN ms.length)
          omega
        have tk1 : (rowsN ms.length).take (i + 1) = (rowsN ms.length).take i ++ [r] := by rw [List.take_add_one, hr0]; rfl
        have kp7 : Kp K H6 H7 := Go.kp_but hA6 s7
        have inc : ∀ H8, SameBut src H7 H8 → Src H8 src → ∃ acc, H8 D2 = some (.lst acc) ∧ acc.length < sizeLine ∧ (SameBut src H6 (upd H8 D2 (.lst (acc ++ [V.ref rq]))) ∧ Src (upd H8 D2 (.lst (acc ++ [V.ref rq]))) src ∧ ∃ (vs : List V) (rs : List Row), (upd H8 D2 (.lst (acc ++ [V.ref rq]))) D2 = some (.lst vs) ∧ DpAll K H6 vs (rs.map rowD) ∧ rs.Sublist ((rowsN ms.length).take (i + 1))) := fun H8 s8 hA8 => by
          have hV8 := s8 _ _ nDs.symm hV
          refine ⟨vs, hV8, szl (by omega), but_at hD2 (s7.trans s8), src_upd hA8 nDs, vs ++ [.ref rq], rs1 ++ [r], upd_same, ?_, ?_⟩
          · rw [List.map_append]
            exact da_app dv (da_one (dp_row hrq))
          · rw [tk1]
            exact sb.append (List.Sublist.refl _)
        have exc : ∀ H8, SameBut src H7 H8 → Src H8 src → SameBut src H6 H8 ∧ Src H8 src ∧ ∃ (vs : List V) (rs : List Row), H8 D2 = some (.lst vs) ∧ DpAll K H6 vs (rs.map rowD) ∧ rs.Sublist ((rowsN ms.length).take (i + 1)) := fun H8 s8 hA8 => by
          have hV8 := s8 _ _ nDs.symm hV
          refine ⟨s7.trans s8, hA8, vs, rs1, hV8, dv, ?_⟩
          rw [tk1]
          exact sb.trans (List.sublist_append_left _ _)
        refine ⟨rfl, ?_⟩
        walk_at "rd"
        refine ⟨rowD r, (rs.map fun r => pk ns r ms).map rowD, dp_row (kp7.1 _ _ hrq), .lst (sq (s7 _ _ nD2 hT6)) (Go.daB hA6 s7 (tup_rows _) dT6), shape_row _, shape_rowsL _, ?_⟩
        refine ⟨_, rfl, ?_⟩
        refine ite2 (fun _ => ?_) (fun _ => ?_)
        · walk_at "rd"
          exact inc H7 (fun _ _ _ h => h) hA7
        · walk_at "rd"
          refine ite2 (fun _ => ?_) (fun _ => ?_)
          · walk_at "rd"
            refine draw_of hA7 ⟨by decide, by decide⟩ fun x H8 _ _ s8 hA8 => ?_
            walk_at "rd"
            refine ite2 (fun _ => ?_) (fun _ => ?_)
            · walk_at "rd"
              exact inc H8 s8 hA8
            · exact exc H8 s8 hA8
          · exact exc H7 (fun _ _ _ h => h) hA7
      · rintro H7 ⟨s7, hA7, vs, rs1, hV, dv, sb⟩
        rw [wl, List.take_length] at sb
        have b07 : SameBut src H H7 := b04.trans (b46.trans s7)
        have kp67 : Kp K H6 H7 := Go.kp_but hA6 s7
        have pt7 := kp67.2 _ _ (PlT.same s6 ht15)
        have dv7 := da_tk kp67.1 _ _ (tup_rows rs1) dv
        have D2s : D2 ≠ src := nDs.symm
        have nD20 : H D2 = none := by
          cases e : H D2 with
          | none => rfl
          | some o => rw [b46 _ _ D2s (b04 _ _ D2s e)] at hD2; cases hD2
        have vl : vs.length ≤ 27 := by
          rw [da_len dv, List.length_map]
          have z1 := sb.length_le
          omega
        dsimp only [gName]
        refine Go.st_co (fun H8 => ∃ (vs8 : List V) (rs8 : List Row), Kp K H7 H8 ∧ SameBut src H H8 ∧ Src H8 src ∧ H8 D2 = some (.lst vs8) ∧ DpAll K H8 vs8 (rs8.map rowD) ∧ rs8.Sublist (rowsN ms.length)) ?_ ?_
        · intro D' hD' _
          dsimp only [tIfS]
          refine and_caseS (b1 := decide (V.int way = V.int 3)) (b2 := decide ((0 : Int) < (vs.length : Nat))) ?_ ?_ ?_
          · intro R hR
            walk_at "rd"
            exact hR _ (Same.refl _)
          · intro H8 s8 R hR
            walk_at "rd"
            refine ⟨_, _, rfl, .inl (sq (s8 _ _ hV)), ?_⟩
            walk_at "rd"
            exact hR _ (Same.refl _)
          intro H8 s8
          have hV8 := s8 _ _ hV
          have hA8 := src_same hA7 s8
          have dv8 := dpAll_same s8 dv7
          refine ite2 (fun c => ?_) (fun _ => ?_)
          · have c2 := of_decide_eq_true (Bool.and_eq_true_iff.mp c).2
            walk_at "rd"
            refine ⟨.inl ⟨rfl, _, sq hV8⟩, ?_⟩
            walk_at "rd"
            refine ⟨_, _, rfl, .inl (sq hV8), ?_⟩
            walk_at "rd"
            refine draw_of hA8 ⟨c2, by omega⟩ fun i H9 i0 i1 b9 hA9 => ?_
            obtain ⟨j, rfl⟩ : ∃ j : Nat, i = (j : Int) := ⟨i.toNat, by omega⟩
            have lj : j < vs.length := by omega
            have hV9 := b9 _ _ D2s hV8
            have kp9 : Kp K H8 H9 := Go.kp_but hA8 b9
            walk_at "rd"
            refine ⟨_, _, _, j, _, rfl, rfl, hV9, by omega, by omega, seq_at lj, List.getElem?_eq_getElem lj, ?_⟩
            refine hD' _ ⟨vs.eraseIdx j, rs1.eraseIdx j, (kp_same s8).trans (kp9.trans (kp_lst hV9)), ?_, src_upd hA9 nDs, upd_same, ?_, (List.eraseIdx_sublist _ _).trans sb⟩
            · exact but_at nD20 (b07.trans ((Bx.Same.but s8).trans b9))
            · exact da_tk (tk_lst hV9) _ _ (tup_rows _) (da_erase (da_tk kp9.1 _ _ (tup_rows _) dv8))
          · walk_at "rd"
            exact hD' _ ⟨vs, rs1, kp_same s8, b07.trans (Bx.Same.but s8), hA8, hV8, dv8, sb⟩
        · rintro H8 ⟨vs8, rs8, kp8, b8, hA8, hV8, dv8, sb8⟩
          walk_at "rd"
          tm_at "tp t2"
          tm_at "al t3"
          have u := Same.trans st2 st3
          exact q t3 (ms, rs8) _ (b8.trans (Bx.Same.but u)) (src_same hA8 u) ⟨t1, t2, vs8, sqt ht3, PlT.same u (kp8.2 _ _ pt7), Bx.Same.tup st3 (sqt ht2), dpAll_same u dv8⟩ ⟨nd.sublist sub, sb8⟩ (by show ms.length ≤ 5; omega) (fun z hz => sub.subset hz)
end
end K21
namespace K21
open Go (tupD tupAll Tk tk_same Tk.trans tk_lst dp_tk da_tk All2)
open PySem PySem.Spec PyProof.Rows L2 Bx TL Dx Zx Ow Sup NdefX Px
local macro_rules | `(tactic| walk_at "rd") => `(tactic| repeat (first | refine ⟨rfl, ?_⟩ | refine ⟨_, rfl, ?_⟩ | refine ⟨_, _, rfl, rfl, ?_⟩ | refine ⟨⟨_, rfl⟩, ?_⟩))
local macro_rules
  | `(tactic| tm_at $s:str) => do
    let id (x : String) := Lean.mkIdent (Lean.Name.mkSimple x)
    match s.getString.splitOn " " with
    | ["rd"] => `(tactic| walk_at "rd")
    | ["sz"] => `(tactic| first | exact sz (by decide) | exact szl (by decide) | exact sz (by show _ ≤ 100000; decide) | ((first | refine sz ?_ | refine szl ?_); (try simp only [List.length_map, List.length_append, List.length_cons, List.length_nil, List.length_take, List.length_drop]); omega) | fail "sz: no bound")
    | ["gn", p, h] => `(tactic| (generalize hu : upd _ $(id p) _ = $(id ("H" ++ p)); obtain ⟨$(id ("s" ++ p)), $(id h)⟩ := Go.al $(id ("n" ++ p)) hu; clear hu))
    | ["al", p] => `(tactic| (refine ⟨by tm_at "sz", fun $(id p) $(id ("n" ++ p)) => ?_⟩; generalize hu : upd _ $(id p) _ = $(id ("H" ++ p)); obtain ⟨$(id ("s" ++ p)), $(id ("h" ++ p))⟩ := Go.al $(id ("n" ++ p)) hu; clear hu; tm_at "rd"))
    | ["al0", p] => `(tactic| (refine ⟨by tm_at "sz", fun $(id p) $(id ("n" ++ p)) => ?_⟩; generalize hu : upd _ $(id p) _ = $(id ("H" ++ p)); obtain ⟨$(id ("s" ++ p)), $(id ("h" ++ p))⟩ := Go.al $(id ("n" ++ p)) hu; clear hu; tm_at "rd"))
    | ["new", p] => `(tactic| (refine fun $(id p) $(id ("n" ++ p)) => ?_; generalize hu : upd _ $(id p) _ = $(id ("H" ++ p)); obtain ⟨$(id ("s" ++ p)), $(id ("h" ++ p))⟩ := Go.al $(id ("n" ++ p)) hu; clear hu; tm_at "rd"))
    | ["new0", p] => `(tactic| (refine fun $(id p) $(id ("n" ++ p)) => ?_; generalize hu : upd _ $(id p) _ = $(id ("H" ++ p)); obtain ⟨$(id ("s" ++ p)), $(id ("h" ++ p))⟩ := Go.al $(id ("n" ++ p)) hu; clear hu; tm_at "rd"))
    | ["up"] => `(tactic| first
        | assumption | exact sq (by assumption) | exact sqt (by assumption) | exact PlT.sq (by assumption)
        | (refine' Bx.Same.tup (by assumption) ?hh; (case hh => tm_at "up")) | (refine' Same.seq (by assumption) ?hh; (case hh => tm_at "up")) | (refine' Go.get (by assumption) ?hh; (case hh => tm_at "up")) | (refine' dpAll_same (by assumption) ?hh; (case hh => tm_at "up")) | (refine' dp_same (by assumption) ?hh; (case hh => tm_at "up")) | (refine' PlT.same (by assumption) ?hh; (case hh => tm_at "up")) | (refine' Go.srcS (by assumption) ?hh; (case hh => tm_at "up"))
        | (refine' Go.tupB (s := _) (by assumption) (by assumption) ?hh; (case hh => tm_at "up")) | (refine' Go.dkB (s := _) (by assumption) (by assumption) ?hh; (case hh => tm_at "up")) | (refine' Go.insB (s := _) (by assumption) (by assumption) ?hh; (case hh => tm_at "up")) | (refine' Go.pltB (s := _) (by assumption) (by assumption) ?hh; (case hh => tm_at "up"))
        | (refine' Go.getB (by assumption) (by first | assumption | exact Ne.symm (by assumption)) ?hh; (case hh => tm_at "up"))
        | (refine' sq ?hh; (case hh => tm_at "raw")) | (refine' sqt ?hh; (case hh => tm_at "raw")) | (refine' PlT.sq ?hh; (case hh => tm_at "raw")) | fail "up: no fact")
    | ["raw"] => `(tactic| first
        | assumption | (refine' Go.get (by assumption) ?hh; (case hh => tm_at "raw")) | (refine' PlT.same (by assumption) ?hh; (case hh => tm_at "raw")) | (refine' Go.pltB (s := _) (by assumption) (by assumption) ?hh; (case hh => tm_at "raw")) | (refine' Go.getB (by assumption) (by first | assumption | exact Ne.symm (by assumption)) ?hh; (case hh => tm_at "raw")) | fail "raw: no fact")
    | ["sq"] => `(tactic| first | exact .inl (by tm_at "up") | exact .inr (by tm_at "up") | fail "sq: no fact")
    | ["ix", j] => `(tactic| (refine ⟨_, _, _, _, rfl, rfl, by tm_at "up", by exact atI_nat (j := $(Lean.Syntax.mkNumLit j)) rfl, ?_⟩; tm_at "rd"))
    | ["ixh", h] => `(tactic| (refine ⟨_, _, _, _, rfl, rfl, by tm_at "up", by first | exact Go.at_mapV $(id h) | exact Go.at_mapZ $(id h) | exact atI_nat $(id h) | exact Go.at_nat0 $(id h), ?_⟩; tm_at "rd"))
    | ["len"] => `(tactic| (refine ⟨_, _, rfl, by tm_at "sq", ?_⟩; (try rw [List.length_map]); tm_at "rd"))
    | ["tp", p] => `(tactic| (refine ⟨_, _, rfl, .inl ⟨by tm_at "up", fun $(id p) $(id ("n" ++ p)) => ?_⟩⟩; generalize hu : upd _ $(id p) _ = $(id ("H" ++ p)); obtain ⟨$(id ("s" ++ p)), $(id ("h" ++ p))⟩ := Go.al $(id ("n" ++ p)) hu; clear hu; tm_at "rd"))
    | ["tp0", p] => `(tactic| (refine ⟨_, _, rfl, .inl ⟨by tm_at "up", fun $(id p) $(id ("n" ++ p)) => ?_⟩⟩; generalize hu : upd _ $(id p) _ = $(id ("H" ++ p)); obtain ⟨$(id ("s" ++ p)), $(id ("h" ++ p))⟩ := Go.al $(id ("n" ++ p)) hu; clear hu; tm_at "rd"))
    | ["ls", p] => `(tactic| (refine ⟨_, _, rfl, by tm_at "sq", fun $(id p) $(id ("n" ++ p)) => ?_⟩; generalize hu : upd _ $(id p) _ = $(id ("H" ++ p)); obtain ⟨$(id ("s" ++ p)), $(id ("h" ++ p))⟩ := Go.al $(id ("n" ++ p)) hu; clear hu; tm_at "rd"))
    | ["ls0", p] => `(tactic| (refine ⟨_, _, rfl, by tm_at "sq", fun $(id p) $(id ("n" ++ p)) => ?_⟩; generalize hu : upd _ $(id p) _ = $(id ("H" ++ p)); obtain ⟨$(id ("s" ++ p)), $(id ("h" ++ p))⟩ := Go.al $(id ("n" ++ p)) hu; clear hu; tm_at "rd"))
    | ["tf", p] => `(tactic| (refine ⟨_, _, rfl, by tm_at "up", fun $(id p) $(id ("o" ++ p)) $(id ("n" ++ p)) $(id ("d" ++ p)) => ?_⟩; generalize hu : upd _ $(id p) _ = $(id ("H" ++ p)); obtain ⟨$(id ("s" ++ p)), $(id ("h" ++ p))⟩ := Go.alF $(id ("n" ++ p)) $(id ("d" ++ p)) hu; clear hu; tm_at "rd"))
    | ["alF", p] => `(tactic| (refine ⟨by tm_at "sz", fun $(id p) $(id ("o" ++ p)) $(id ("n" ++ p)) $(id ("d" ++ p)) => ?_⟩; generalize hu : upd _ $(id p) _ = $(id ("H" ++ p)); obtain ⟨$(id ("s" ++ p)), $(id ("h" ++ p))⟩ := Go.alF $(id ("n" ++ p)) $(id ("d" ++ p)) hu; clear hu; tm_at "rd"))
    | ["bare", k] => `(tactic| (refine fun $(id k) $(id ("d" ++ k)) $(id ("n" ++ k)) $(id ("nd" ++ k)) $(id ("ne" ++ k)) => ?_; generalize hu : upd (upd _ $(id ("d" ++ k)) _) $(id k) _ = $(id ("H" ++ k)); obtain ⟨$(id ("s" ++ k)), $(id ("h" ++ k))⟩ := Go.bare $(id ("n" ++ k)) $(id ("nd" ++ k)) $(id ("ne" ++ k)) hu; clear hu; walk_at "rd"))
    | ["me"] => `(tactic| (refine ⟨_, _, _, rfl, by tm_at "up", rfl, ?_⟩; walk_at "rd"))
    | ["star"] => `(tactic| ((first | refine ⟨_, _, rfl, .inl (by tm_at "up"), ?_⟩ | refine ⟨_, _, rfl, .inr (by tm_at "up"), ?_⟩ | fail "star"); walk_at "rd"))
    | ["ap0"] => `(tactic| (refine ⟨.inl ⟨rfl, _, by tm_at "up"⟩, ?_⟩; tm_at "rd"))
    | ["ap"] => `(tactic| refine ⟨_, _, _, rfl, rfl, by tm_at "up", by tm_at "sz", ?_⟩)
    | ["un", n] => match n with
      | "2" => `(tactic| (refine ⟨_, _, rfl, by tm_at "up", rfl, _, _, rfl, _, _, rfl, rfl, ?_⟩; tm_at "rd"))
      | _ => `(tactic| (refine ⟨_, _, rfl, by tm_at "up", rfl, _, _, rfl, _, _, rfl, _, _, rfl, rfl, ?_⟩; tm_at "rd"))
    | _ => Lean.Macro.throwUnsupported
theorem cons_er : ∀ (l : List Str) (j : Nat) (h : j < l.length), (l[j] :: l.eraseIdx j).Perm l
  | a :: l, 0, _ => List.Perm.refl _
  | a :: l, j + 1, h => by
    have hj : j < l.length := Nat.lt_of_succ_lt_succ h
    have ih := cons_er l j hj
    show (l[j] :: a :: l.eraseIdx j).Perm (a :: l)
    exact (List.Perm.swap a l[j] (l.eraseIdx j)).trans (List.Perm.cons a ih)
theorem pop_perm {os ls ns : List Str} {j : Nat} (h : (os ++ ls).Perm ns) (lj : j < ls.length) : ((os ++ [ls[j]]) ++ ls.eraseIdx j).Perm ns := by
  refine List.Perm.trans ?_ h
  rw [List.append_assoc]
  exact List.Perm.append_left _ (cons_er ls j lj)
theorem er_map {α β : Type} {f : α → β} : ∀ (l : List α) (j : Nat), (l.map f).eraseIdx j = (l.eraseIdx j).map f
  | [], _ => rfl
  | _ :: _, 0 => rfl
  | a :: l, j + 1 => by
    show f a :: (l.map f).eraseIdx j = f a :: (l.eraseIdx j).map f
    rw [er_map l j]
section
variable {P : Program} {w : World} {K : PySem.W.Frag} {mg : Str → Option Value} {base : Heap}
@[irreducible] def spOrder (K : PySem.W.Frag) : Sp := fun vs H Q _ => ∃ (src na : Addr) (ns : List Str), vs = [.ref src, .ref na] ∧ Src H src ∧ SqT K H na (ns.map V.str) ∧ ns.length ≤ 20 ∧ ∀ (o : Addr) (os : List Str) (H' : Hp), SameBut src H H' → Src H' src → H o = none → H' o = some (.lst (os.map V.str)) → os.Perm ns → Q (.ref o) H'
set_option maxHeartbeats 1000000 in
theorem ok_order {f : Addr} {fd : FuncData} (F : Fun K "_law_order" "_law_order" s__law_order f fd) (m_len : mg "len" = none) (m_list : mg "list" = none) (C__law_draw : CDraw P w K mg base) : FnOk P w K mg base CX0 2 f fd ["_law_source_here", "_law_names"] (spOrder K) := by
  refine F.ok sc__law_order (fun vs H Q E h => ?_) (fun cdv A outer s H vs Q E hr h => ?_)
  · unfold spOrder at h
    obtain ⟨src, na, ns, rfl, _⟩ := h
    rfl
  · unfold spOrder at h
    obtain ⟨src, na, ns, rfl, hA, hna, nl, q⟩ := h
    refine ⟨_, (pss_cons (ps_set (i := 2) sc__law_order.nd rfl (Or.inl rfl) (pe_callTy (T := "list") call_list_of (by rfl) m_list (by decide +kernel) (pa_cons (pv 1) pa_nil)))
    (pss_cons (ps_set (i := 3) sc__law_order.nd rfl (Or.inl rfl) (pe_lst pa_nil))
    (pss_cons (ps_for PassesOwn.never rfl (pi_tup (pv 1)) (pg_name (i := 4) sc__law_order.nd rfl (Or.inl rfl))
      (pss_one (ps_expr (pe_bm PySem.F.plainAttrs_list PySem.F.slot_list_append PySem.F.type_list_append mt_append (pv 3) (pa_cons (pe_bm PySem.F.plainAttrs_list PySem.F.slot_list_pop PySem.F.type_list_pop mt_popAt (pv 2) (pa_cons (pe_cal C__law_draw (hr.mono (by decide)) (pa_cons (pv 0) (pa_cons (pe_callB call_len_seq (by rfl) m_len PySem.boot_len (pa_cons (pv 2) pa_nil)) pa_nil))) pa_nil)) pa_nil)))))
    (pss_one (ps_ret (pv 3)))))), ?_⟩
    walk_at "rd"
    tm_at "ls l"
    tm_at "al o"
    have nls : l ≠ src := (src_ne hA nl).symm
    have no0 : H o = none := sl.free no
    have nos : o ≠ src := (src_ne hA no0).symm
    have nlo : l ≠ o := fun e => by rw [← e, hl] at no; cases no
    have s0 := sl.trans so
    have hna1 := Bx.Same.tup s0 hna
    refine ⟨⟨_, hna1⟩, for_it walk_tup (fun i σ H' => ∃ (o4 : Option V) (os ls : List Str), σ = [some (.ref src), some (.ref na), some (.ref l), some (.ref o), o4] ∧ SameBut src H H' ∧ Src H' src ∧ H' l = some (.lst (ls.map V.str)) ∧ H' o = some (.lst (os.map V.str)) ∧ (os ++ ls).Perm ns ∧ os.length = i) ⟨none, [], ns, rfl, Bx.Same.but s0, src_same hA s0, so _ _ hl, ho, List.Perm.refl _, rfl⟩ (fun i σ H' _ ⟨_, _, _, _, s, _⟩ => sqt_but hA s hna) ?_ ?_⟩
    · rintro i x σ H1a H1 hi ⟨o4, os, ls, rfl, b1, hA1, hl1, ho1, pm, ol⟩ ⟨rfl, hx⟩
      rw [List.length_map] at hi
      have ln := pm.length_eq
      rw [List.length_append] at ln
      walk_at "rd"
      refine ⟨.inl ⟨rfl, _, sq ho1⟩, ?_⟩
      walk_at "rd"
      refine ⟨.inl ⟨rfl, _, sq hl1⟩, ?_⟩
      walk_at "rd"
      refine ⟨_, _, rfl, .inl (sq hl1), ?_⟩
      rw [List.length_map]
      walk_at "rd"
      refine draw_of hA1 ⟨by omega, by omega⟩ fun d H2 d0 d1 b2 hA2 => ?_
      obtain ⟨j, rfl⟩ : ∃ j : Nat, d = (j : Int) := ⟨d.toNat, by omega⟩
      have lj : j < ls.length := by omega
      have hl2 := b2 _ _ nls hl1
      have ho2 := b2 _ _ nos ho1
      walk_at "rd"
      refine ⟨_, _, _, j, _, rfl, rfl, hl2, by omega, by omega, seq_at (by rw [List.length_map]; exact lj), (by rw [List.getElem?_map, List.getElem?_eq_getElem lj]; rfl), ?_⟩
      walk_at "rd"
      refine ⟨_, _, _, rfl, rfl, by rw [upd_ne (Ne.symm nlo)]; exact ho2, szl (by rw [List.length_map]; omega), ?_⟩
      refine ⟨_, os ++ [ls[j]], ls.eraseIdx j, rfl, but_at no0 (but_at nl (b1.trans b2)), src_upd (src_upd hA2 nls.symm) nos.symm, ?_, ?_, pop_perm pm lj, by rw [List.length_append, ol]; rfl⟩
      · rw [upd_ne nlo, upd_same]
        congr 2
        exact er_map ls j
      · rw [upd_same, List.map_append]
        rfl
    · rintro σ H1 ⟨o4, os, ls, rfl, b1, hA1, hl1, ho1, pm, ol⟩
      rw [List.length_map] at ol
      have ln := pm.length_eq
      rw [List.length_append] at ln
      have e0 : ls = [] := List.eq_nil_of_length_eq_zero (by omega)
      subst e0
      rw [List.append_nil] at pm
      walk_at "rd"
      exact q o os H1 b1 hA1 no0 ho1 pm
@[irreducible] def spLeaf : Sp := fun vs H Q _ => ∃ (src : Addr) (n : Nat), vs = [.ref src, .int (n : Int)] ∧ Src H src ∧ n ≤ 100 ∧ ∀ (i : Int) (H' : Hp), SameBut src H H' → Src H' src → Q (.int i) H'
set_option maxHeartbeats 1000000 in
theorem ok_leaf {f : Addr} {fd : FuncData} (F : Fun K "_law_leaf" "_law_leaf" s__law_leaf f fd) (m_max : mg "max" = none) (C__law_draw : CDraw P w K mg base) : FnOk P w K mg base CX0 2 f fd ["_law_source_here", "_law_count"] spLeaf := by
  refine F.ok sc__law_leaf (fun vs H Q E h => ?_) (fun cdv A outer s H vs Q E hr h => ?_)
  · unfold spLeaf at h
    obtain ⟨src, n, rfl, _⟩ := h
    rfl
  · unfold spLeaf at h
    obtain ⟨src, n, rfl, hA, nl, q⟩ := h
    refine ⟨_, (pss_one (ps_ret (pe_ix ix_list (pe_lst (pa_cons (pe_un un_neg pe_int) (pa_cons (pe_un un_neg pe_int) (pa_cons (pv 1) (pa_cons (pe_op op_add (pv 1) pe_int) (pa_cons pe_int (pa_cons (pe_cal C__law_draw (hr.mono (by decide)) (pa_cons (pv 0) (pa_cons (pe_callB (call_max2 rfl) (by rfl) m_max (by decide +kernel) (pa_cons pe_int (pa_cons (pv 1) pa_nil))) pa_nil))) pa_nil))))))) (pe_cal C__law_draw (hr.mono (by decide)) (pa_cons (pv 0) (pa_cons pe_int pa_nil))) (fun _ _ => rfl)))), ?_⟩
    walk_at "rd"
    refine ⟨1, (n : Nat), rfl, ?_⟩
    walk_at "rd"
    refine draw_of (lim := if ((n : Nat) : Int) > 1 then ((n : Nat) : Int) else 1) hA ⟨by split <;> omega, by split <;> omega⟩ fun d H1 _ _ b1 hA1 => ?_
    walk_at "rd"
    refine ⟨sz (by show 6 ≤ 100000; decide), fun p np => ?_⟩
    have u := same_new np (o := .lst [.int (-1), .int (-2), .int (n : Nat), .int ((n : Nat) + 3), .int 0, .int d])
    have hp := upd_same (H := H1) (a := p) (o := .lst [.int (-1), .int (-2), .int (n : Nat), .int ((n : Nat) + 3), .int 0, .int d])
    have hA2 : Src (upd H1 p (.lst [.int (-1), .int (-2), .int (n : Nat), .int ((n : Nat) + 3), .int 0, .int d])) src := src_same hA1 u
    have nps : p ≠ src := (src_ne hA1 np).symm
    walk_at "rd"
    refine draw_of hA2 ⟨by decide, by decide⟩ fun k H3 k0 k1 b3 hA3 => ?_
    have hp3 := b3 _ _ nps hp
    obtain ⟨j, rfl⟩ : ∃ j : Nat, k = (j : Int) := ⟨k.toNat, by omega⟩
    have lj : j < 6 := by omega
    obtain ⟨i, hi⟩ : ∃ i : Int, [V.int (-1), .int (-2), .int (n : Nat), .int ((n : Nat) + 3), .int 0, .int d][j]? = some (.int i) := by
      match j, lj with
      | 0, _ => exact ⟨_, rfl⟩
      | 1, _ => exact ⟨_, rfl⟩
      | 2, _ => exact ⟨_, rfl⟩
      | 3, _ => exact ⟨_, rfl⟩
      | 4, _ => exact ⟨_, rfl⟩
      | 5, _ => exact ⟨_, rfl⟩
    refine ⟨_, _, _, _, rfl, rfl, sq hp3, atI_nat hi, ?_⟩
    exact q i H3 (b1.trans ((Bx.Same.but u).trans b3)) hA3
end
end K21
namespace K21
open Go (tupD tupAll Tk tk_same Tk.trans tk_lst dp_tk da_tk All2)
open PySem PySem.Spec PyProof.Rows L2 Bx TL Dx Zx Ow Sup NdefX Px
local macro_rules | `(tactic| walk_at "rd") => `(tactic| repeat (first | refine ⟨rfl, ?_⟩ | refine ⟨_, rfl, ?_⟩ | refine ⟨_, _, rfl, rfl, ?_⟩ | refine ⟨⟨_, rfl⟩, ?_⟩))
local macro_rules
  | `(tactic| tm_at $s:str) => do
    let id (x : String) := Lean.mkIdent (Lean.Name.mkSimple x)
    match s.getString.splitOn " " with
    | ["rd"] => `(tactic| walk_at "rd")
    | ["sz"] => `(tactic| first | exact sz (by decide) | exact szl (by decide) | exact sz (by show _ ≤ 100000; decide) | ((first | refine sz ?_ | refine szl ?_); (try simp only [List.length_map, List.length_append, List.length_cons, List.length_nil, List.length_take, List.length_drop]); omega) | fail "sz: no bound")
    | ["gn", p, h] => `(tactic| (generalize hu : upd _ $(id p) _ = $(id ("H" ++ p)); obtain ⟨$(id ("s" ++ p)), $(id h)⟩ := Go.al $(id ("n" ++ p)) hu; clear hu))
    | ["al", p] => `(tactic| (refine ⟨by tm_at "sz", fun $(id p) $(id ("n" ++ p)) => ?_⟩; generalize hu : upd _ $(id p) _ = $(id ("H" ++ p)); obtain ⟨$(id ("s" ++ p)), $(id ("h" ++ p))⟩ := Go.al $(id ("n" ++ p)) hu; clear hu; tm_at "rd"))
    | ["al0", p] => `(tactic| (refine ⟨by tm_at "sz", fun $(id p) $(id ("n" ++ p)) => ?_⟩; generalize hu : upd _ $(id p) _ = $(id ("H" ++ p)); obtain ⟨$(id ("s" ++ p)), $(id ("h" ++ p))⟩ := Go.al $(id ("n" ++ p)) hu; clear hu; tm_at "rd"))
    | ["new", p] => `(tactic| (refine fun $(id p) $(id ("n" ++ p)) => ?_; generalize hu : upd _ $(id p) _ = $(id ("H" ++ p)); obtain ⟨$(id ("s" ++ p)), $(id ("h" ++ p))⟩ := Go.al $(id ("n" ++ p)) hu; clear hu; tm_at "rd"))
    | ["new0", p] => `(tactic| (refine fun $(id p) $(id ("n" ++ p)) => ?_; generalize hu : upd _ $(id p) _ = $(id ("H" ++ p)); obtain ⟨$(id ("s" ++ p)), $(id ("h" ++ p))⟩ := Go.al $(id ("n" ++ p)) hu; clear hu; tm_at "rd"))
    | ["up"] => `(tactic| first
        | assumption | exact sq (by assumption) | exact sqt (by assumption) | exact PlT.sq (by assumption)
        | (refine' Bx.Same.tup (by assumption) ?hh; (case hh => tm_at "up")) | (refine' Same.seq (by assumption) ?hh; (case hh => tm_at "up")) | (refine' Go.get (by assumption) ?hh; (case hh => tm_at "up")) | (refine' dpAll_same (by assumption) ?hh; (case hh => tm_at "up")) | (refine' dp_same (by assumption) ?hh; (case hh => tm_at "up")) | (refine' PlT.same (by assumption) ?hh; (case hh => tm_at "up")) | (refine' Go.srcS (by assumption) ?hh; (case hh => tm_at "up"))
        | (refine' Go.tupB (s := _) (by assumption) (by assumption) ?hh; (case hh => tm_at "up")) | (refine' Go.dkB (s := _) (by assumption) (by assumption) ?hh; (case hh => tm_at "up")) | (refine' Go.insB (s := _) (by assumption) (by assumption) ?hh; (case hh => tm_at "up")) | (refine' Go.pltB (s := _) (by assumption) (by assumption) ?hh; (case hh => tm_at "up"))
        | (refine' Go.getB (by assumption) (by first | assumption | exact Ne.symm (by assumption)) ?hh; (case hh => tm_at "up"))
        | (refine' sq ?hh; (case hh => tm_at "raw")) | (refine' sqt ?hh; (case hh => tm_at "raw")) | (refine' PlT.sq ?hh; (case hh => tm_at "raw")) | fail "up: no fact")
    | ["raw"] => `(tactic| first
        | assumption | (refine' Go.get (by assumption) ?hh; (case hh => tm_at "raw")) | (refine' PlT.same (by assumption) ?hh; (case hh => tm_at "raw")) | (refine' Go.pltB (s := _) (by assumption) (by assumption) ?hh; (case hh => tm_at "raw")) | (refine' Go.getB (by assumption) (by first | assumption | exact Ne.symm (by assumption)) ?hh; (case hh => tm_at "raw")) | fail "raw: no fact")
    | ["sq"] => `(tactic| first | exact .inl (by tm_at "up") | exact .inr (by tm_at "up") | fail "sq: no fact")
    | ["ix", j] => `(tactic| (refine ⟨_, _, _, _, rfl, rfl, by tm_at "up", by exact atI_nat (j := $(Lean.Syntax.mkNumLit j)) rfl, ?_⟩; tm_at "rd"))
    | ["ixh", h] => `(tactic| (refine ⟨_, _, _, _, rfl, rfl, by tm_at "up", by first | exact Go.at_mapV $(id h) | exact Go.at_mapZ $(id h) | exact atI_nat $(id h) | exact Go.at_nat0 $(id h), ?_⟩; tm_at "rd"))
    | ["len"] => `(tactic| (refine ⟨_, _, rfl, by tm_at "sq", ?_⟩; (try rw [List.length_map]); tm_at "rd"))
    | ["tp", p] => `(tactic| (refine ⟨_, _, rfl, .inl ⟨by tm_at "up", fun $(id p) $(id ("n" ++ p)) => ?_⟩⟩; generalize hu : upd _ $(id p) _ = $(id ("H" ++ p)); obtain ⟨$(id ("s" ++ p)), $(id ("h" ++ p))⟩ := Go.al $(id ("n" ++ p)) hu; clear hu; tm_at "rd"))
    | ["tp0", p] => `(tactic| (refine ⟨_, _, rfl, .inl ⟨by tm_at "up", fun $(id p) $(id ("n" ++ p)) => ?_⟩⟩; generalize hu : upd _ $(id p) _ = $(id ("H" ++ p)); obtain ⟨$(id ("s" ++ p)), $(id ("h" ++ p))⟩ := Go.al $(id ("n" ++ p)) hu; clear hu; tm_at "rd"))
    | ["ls", p] => `(tactic| (refine ⟨_, _, rfl, by tm_at "sq", fun $(id p) $(id ("n" ++ p)) => ?_⟩; generalize hu : upd _ $(id p) _ = $(id ("H" ++ p)); obtain ⟨$(id ("s" ++ p)), $(id ("h" ++ p))⟩ := Go.al $(id ("n" ++ p)) hu; clear hu; tm_at "rd"))
    | ["ls0", p] => `(tactic| (refine ⟨_, _, rfl, by tm_at "sq", fun $(id p) $(id ("n" ++ p)) => ?_⟩; generalize hu : upd _ $(id p) _ = $(id ("H" ++ p)); obtain ⟨$(id ("s" ++ p)), $(id ("h" ++ p))⟩ := Go.al $(id ("n" ++ p)) hu; clear hu; tm_at "rd"))
    | ["tf", p] => `(tactic| (refine ⟨_, _, rfl, by tm_at "up", fun $(id p) $(id ("o" ++ p)) $(id ("n" ++ p)) $(id ("d" ++ p)) => ?_⟩; generalize hu : upd _ $(id p) _ = $(id ("H" ++ p)); obtain ⟨$(id ("s" ++ p)), $(id ("h" ++ p))⟩ := Go.alF $(id ("n" ++ p)) $(id ("d" ++ p)) hu; clear hu; tm_at "rd"))
    | ["alF", p] => `(tactic| (refine ⟨by tm_at "sz", fun $(id p) $(id ("o" ++ p)) $(id ("n" ++ p)) $(id ("d" ++ p)) => ?_⟩; generalize hu : upd _ $(id p) _ = $(id ("H" ++ p)); obtain ⟨$(id ("s" ++ p)), $(id ("h" ++ p))⟩ := Go.alF $(id ("n" ++ p)) $(id ("d" ++ p)) hu; clear hu; tm_at "rd"))
    | ["bare", k] => `(tactic| (refine fun $(id k) $(id ("d" ++ k)) $(id ("n" ++ k)) $(id ("nd" ++ k)) $(id ("ne" ++ k)) => ?_; generalize hu : upd (upd _ $(id ("d" ++ k)) _) $(id k) _ = $(id ("H" ++ k)); obtain ⟨$(id ("s" ++ k)), $(id ("h" ++ k))⟩ := Go.bare $(id ("n" ++ k)) $(id ("nd" ++ k)) $(id ("ne" ++ k)) hu; clear hu; walk_at "rd"))
    | ["me"] => `(tactic| (refine ⟨_, _, _, rfl, by tm_at "up", rfl, ?_⟩; walk_at "rd"))
    | ["star"] => `(tactic| ((first | refine ⟨_, _, rfl, .inl (by tm_at "up"), ?_⟩ | refine ⟨_, _, rfl, .inr (by tm_at "up"), ?_⟩ | fail "star"); walk_at "rd"))
    | ["ap0"] => `(tactic| (refine ⟨.inl ⟨rfl, _, by tm_at "up"⟩, ?_⟩; tm_at "rd"))
    | ["ap"] => `(tactic| refine ⟨_, _, _, rfl, rfl, by tm_at "up", by tm_at "sz", ?_⟩)
    | ["un", n] => match n with
      | "2" => `(tactic| (refine ⟨_, _, rfl, by tm_at "up", rfl, _, _, rfl, _, _, rfl, rfl, ?_⟩; tm_at "rd"))
      | _ => `(tactic| (refine ⟨_, _, rfl, by tm_at "up", rfl, _, _, rfl, _, _, rfl, _, _, rfl, rfl, ?_⟩; tm_at "rd"))
    | _ => Lean.Macro.throwUnsupported
theorem st_test {t : TT} {σ : L2.St} {H : Hp} {Z : Bool → Hp → Prop} (P : Bool → Hp → Prop) (h : ∀ Z' : Bool → Hp → Prop, (∀ b H', P b H' → Z' b H') → t σ H Z') (k : ∀ b H', P b H' → Z b H') : t σ H Z := h Z k
section
variable {P : Program} {w : World} {K : PySem.W.Frag} {mg : Str → Option Value} {base : Heap}
def spMade (K : PySem.W.Frag) : Nat → Sp
  | 0 => fun _ _ _ _ => False
  | k + 1 => fun vs H Q _ => ∃ (src th o d : Addr) (ns os : List Str) (ts : List Tab) (l : As), vs = [.ref src, .ref th, .ref o, .ref d] ∧ Src H src ∧ ThAt K H th ns ts ∧ TsOk ts ∧ ts.length ≤ 100 ∧ o ≠ src ∧ H o = some (.lst (os.map V.str)) ∧ os.length ≤ k ∧ H d = some (.dK (asV l)) ∧ (l.map (·.1) ++ os).Nodup ∧ l.length + os.length ≤ 50 ∧
    ∀ (v : V) (tr : Tr) (H' : Hp), SameBut src H H' → Src H' src → Dp K H' v (trD tr) → dep tr ≤ os.length → Q v H'
set_option maxHeartbeats 2000000 in
theorem ok_made {f : Addr} {fd : FuncData} (F : Fun K "_law_made" "_law_made" s__law_made f fd) (m_len : mg "len" = none) (m_range : mg "range" = none) (C__law_draw : CDraw P w K mg base) (C__law_can_hold : Cal P w K mg base "_law_can_hold" 1 ["_law_table_here", "_law_decided"] (spLCan K))
    (gS : mg "_law_made" = some (.ref f)) (kS : PySem.W.keepIn K (.ref f) = true) (bS : Binds K fd ["_law_source_here", "_law_theory", "_law_order_here", "_law_decided"] []) : ∀ k : Nat, FnOk P w K mg base CX0 (k + 1) f fd ["_law_source_here", "_law_theory", "_law_order_here", "_law_decided"] (spMade K k)
  | 0 => F.ok sc__law_made (fun vs H Q E h => h.elim) (fun cdv A outer s H vs Q E hr h => h.elim)
  | k + 1 => by
    have C__law_made : Cal P w K mg base "_law_made" (k + 1) ["_law_source_here", "_law_theory", "_law_order_here", "_law_decided"] (spMade K k) := ⟨_, _, ok_made F m_len m_range C__law_draw C__law_can_hold gS kS bS k, gS, kS, bS⟩
    refine F.ok sc__law_made (fun vs H Q E h => ?_) (fun cdv A outer s H vs Q E hr h => ?_)
    · obtain ⟨src, th, o, d, ns, os, ts, l, rfl, _⟩ := h
      rfl
    · obtain ⟨src, th, o, d, ns, os, ts, l, rfl, hA, hth, tok, tl, nos, ho, ok, hd, nd, ll, q⟩ := h
      have hu := hu_of hr
      obtain ⟨na, ta, us, h1, h2, h3, h4⟩ := id hth
      refine ⟨_, (pss_cons (ps_setLc (i := 4) (own := [("_law_k", 9)]) rfl sc__law_made.nd rfl rfl (sw_true rfl rfl rfl (by decide +kernel)) (pi_range1 (by rfl) m_range (pa_cons (pe_callB call_len_seq (by rfl) m_len PySem.boot_len (pa_cons (pe_ix ix_tup (pv 1) pe_int (fun _ _ => rfl)) pa_nil)) pa_nil)) (blkOk_by (N := n__law_made) (sc := defScope s__law_made) (by decide +kernel)) (fun _ _ _ _ _ => pg_name (i := 9) sc__law_made.nd rfl (Or.inl rfl)) (fun _ _ _ _ _ => pts_one (pt_not (pt_val (pe_cal C__law_can_hold (hr.mono (by omega)) (pa_cons (pe_ix (ix_tupK (K := K) rfl) (pe_ix (ix_tupK (K := K) rfl) (pv 1) pe_int (fun _ _ => rfl)) (pv 9) (fun _ _ => rfl)) (pa_cons (pv 3) pa_nil)))))) (fun _ _ _ _ _ => (pv 9)))
    (pss_cons (ps_if (PW.pt (pw_and (pt_cmpR op_gt (pe_callB call_len_seq (by rfl) m_len PySem.boot_len (pa_cons (pv 4) pa_nil)) pe_int (nomark _)) (pw_and1 (PW.pt (pw_or (pt_cmpR op_eq (pe_callB call_len_seq (by rfl) m_len PySem.boot_len (pa_cons (pv 2) pa_nil)) pe_int (nomark _)) (pw_or1 (pt_cmpR op_gt (pe_cal C__law_draw (hr.mono (by omega)) (pa_cons (pv 0) (pa_cons pe_int pa_nil))) pe_int (nomark _))))))))
      (pss_one (ps_ret (pe_ix ix_list (pv 4) (pe_cal C__law_draw (hr.mono (by omega)) (pa_cons (pv 0) (pa_cons (pe_callB call_len_seq (by rfl) m_len PySem.boot_len (pa_cons (pv 4) pa_nil)) pa_nil))) (fun _ _ => rfl))))
      pss_nil)
    (pss_cons (ps_if (pt_cmpR op_eq (pe_callB call_len_seq (by rfl) m_len PySem.boot_len (pa_cons (pv 2) pa_nil)) pe_int (nomark _))
      (pss_one (ps_ret (pe_un un_neg pe_int)))
      pss_nil)
    (pss_cons (ps_set (i := 5) sc__law_made.nd rfl (Or.inl rfl) (pe_lst pa_nil))
    (pss_cons (ps_for PassesOwn.never rfl (pi_range1 (by rfl) m_range (pa_cons pe_int pa_nil)) (pg_name (i := 6) sc__law_made.nd rfl (Or.inl rfl))
      (pss_cons (ps_set (i := 7) sc__law_made.nd rfl (Or.inl rfl) (pe_disp (pps_cons (pe_ix ix_list (pv 2) pe_int (fun _ _ => rfl)) (pv 6) pps_nil) (by rfl) (by rfl) (by simp) (by decide)))
    (pss_cons (ps_lock (ps_for PassesOwn.never rfl (pi_keys (pv 3)) (pg_name (i := 8) sc__law_made.nd rfl (Or.inl rfl))
      (pss_one (ps_dput hu (pv 7) (pv 8) (pe_dget hu (pv 3) (pv 8) (fun _ _ => rfl)) rfl))))
    (pss_one (ps_expr (pe_bm PySem.F.plainAttrs_list PySem.F.slot_list_append PySem.F.type_list_append mt_append (pv 5) (pa_cons (pe_cal C__law_made (hr.mono (by omega)) (pa_cons (pv 0) (pa_cons (pv 1) (pa_cons (pe_slice sl_list (pv 2) (po_some pe_int) po_none) (pa_cons (pv 7) pa_nil))))) pa_nil)))))))
    (pss_one (ps_ret (pe_tup (pa_cons (pe_ix ix_list (pv 2) pe_int (fun _ _ => rfl)) (pa_cons (pe_ix ix_list (pv 5) pe_int (fun _ _ => rfl)) (pa_cons (pe_ix ix_list (pv 5) pe_int (fun _ _ => rfl)) (pa_cons (pe_ix ix_list (pv 5) pe_int (fun _ _ => rfl)) pa_nil)))))))))))), ?_⟩
      walk_at "rd"
      tm_at "ix 1"
      refine ⟨_, _, rfl, .inr h3, ?_⟩
      rw [h4.len]
      walk_at "rd"
      refine ⟨by omega, by omega, fun D nD => ?_⟩
      refine Go.lc_rel walk_range (List.range ts.length) (fun k => !canG (ts.getD k ([], [])) (lk l)) (fun H v k => v = .int (k : Nat)) (by rw [List.length_range]; omega) (by omega) nD (fun _ _ _ _ _ h => h) (fun _ _ _ _ _ _ h => h) (fun _ _ => trivial) Go.yfn ?_ ?_
      · rintro j x y H2a H2 hk s2 ⟨rfl, rfl⟩ Z Z' hZ hZ'
        obtain ⟨lj, ej⟩ := List.getElem?_eq_some_iff.mp hk
        rw [List.length_range] at lj
        rw [List.getElem_range] at ej
        subst ej
        have et := List.getElem?_eq_getElem lj
        have eg : ts.getD j ([], []) = ts[j] := by rw [List.getD_eq_getElem?_getD, et]; rfl
        obtain ⟨u, hu2, p, rfl, hp⟩ := h4.at' et
        obtain ⟨t1, t2⟩ := tok.ok _ (List.mem_of_getElem? et)
        refine ⟨rfl, ?_⟩
        walk_at "rd"
        refine ⟨_, _, _, _, rfl, rfl, Bx.Same.tup s2 h1, atI_nat (j := 1) rfl, ?_⟩
        walk_at "rd"
        refine ⟨_, _, _, _, rfl, rfl, Bx.Same.tup s2 h3, Go.at_nat0 hu2, ?_⟩
        walk_at "rd"
        show spLCan K _ _ _ _
        unfold spLCan
        refine ⟨p, d, _, l, rfl, hp.same s2, t1, t2, s2 _ _ hd, fun H4 s4 => ?_⟩
        refine ⟨_, rfl, ?_⟩
        rw [← eg]
        refine ite2 (fun c => ?_) (fun c => ?_)
        · walk_at "rd"
          exact hZ _ _ c s4 (by show V.int (0 + (j : Int)) = V.int (j : Int); rw [Int.zero_add])
        · exact hZ' _ (Bool.eq_false_iff.mpr c) s4
      · rintro H2 fs s2 hW hws
        have hA2 := src_same hA s2
        have nDs : D ≠ src := (src_ne hA nD).symm
        have fl : fs.length ≤ 100 := by
          rw [hws.len]
          exact Nat.le_trans (List.length_filter_le _ _) (by rw [List.length_range]; exact tl)
        have ho2 := s2 _ _ ho
        dsimp only [gName, tSeq, tIfS]
        refine st_test (fun b H' => SameBut src H2 H' ∧ Src H' src ∧ (b = true → 0 < fs.length)) ?_ ?_
        · intro Z' hZ'
          walk_at "rd"
          refine ⟨_, _, rfl, .inl (sq hW), ?_⟩
          walk_at "rd"
          refine ite2 (fun c => ?_) (fun c => ?_)
          · have c1 := of_decide_eq_true c
            walk_at "rd"
            refine ⟨_, _, rfl, .inl (sq ho2), ?_⟩
            walk_at "rd"
            refine ite2 (fun _ => ?_) (fun _ => ?_)
            · exact hZ' _ _ ⟨fun _ _ _ h => h, hA2, fun _ => by omega⟩
            · walk_at "rd"
              refine draw_of hA2 ⟨by decide, by decide⟩ fun x H3 _ _ b3 hA3 => ?_
              walk_at "rd"
              exact hZ' _ _ ⟨b3, hA3, fun _ => by omega⟩
          · exact hZ' _ _ ⟨fun _ _ _ h => h, hA2, fun h => (nomatch h)⟩
        · rintro b H3 ⟨b3, hA3, fpos⟩
          have hW3 := b3 _ _ nDs hW
          have ho3 := b3 _ _ nos ho2
          have b03 : SameBut src H H3 := (Bx.Same.but s2).trans b3
          have kp03 : Kp K H H3 := Go.kp_but hA b03
          cases b with
          | true =>
            have fp := fpos rfl
            walk_at "rd"
            refine ⟨_, _, rfl, .inl (sq hW3), ?_⟩
            walk_at "rd"
            refine draw_of hA3 ⟨by omega, by omega⟩ fun i H4 i0 i1 b4 hA4 => ?_
            obtain ⟨j, rfl⟩ : ∃ j : Nat, i = (j : Int) := ⟨i.toNat, by omega⟩
            have hj := List.getElem?_eq_getElem (show j < fs.length by omega)
            obtain ⟨kk, _, ev⟩ := hws.at hj
            rw [ev] at hj
            refine ⟨_, _, _, _, rfl, rfl, sq (b4 _ _ nDs hW3), atI_nat hj, ?_⟩
            exact q (.int (kk : Nat)) (.leaf (kk : Nat)) H4 (b03.trans b4) hA4 (.int _) (Nat.zero_le _)
          | false =>
            walk_at "rd"
            refine ⟨_, _, rfl, .inl (sq ho3), ?_⟩
            rw [List.length_map]
            walk_at "rd"
            refine ite2 (fun _ => ?_) (fun c => ?_)
            · walk_at "rd"
              exact q (.int (-1)) (.leaf (-1)) H3 b03 hA3 (.int _) (Nat.zero_le _)
            have oz := int_f c
            obtain ⟨z, zs, rfl⟩ : ∃ z zs, os = z :: zs := by
              cases os with
              | nil => exact (oz rfl).elim
              | cons z zs => exact ⟨z, zs, rfl⟩
            dsimp only [tNext]
            walk_at "rd"
            tm_at "al b0"
            have nb0s : b0 ≠ src := (src_ne hA3 nb0).symm
            have nin : z ∉ l.map (·.1) := fun h => (List.nodup_append.mp nd).2.2 z h z (List.mem_cons_self ..) rfl
            have ndl := (List.nodup_append.mp nd).1
            have ndz := (List.nodup_append.mp nd).2.1
            have llz : l.length + (zs.length + 1) ≤ 50 := ll
            have hd3 := Go.dkB hA2 b3 (s2 _ _ hd)
            obtain ⟨k, rfl⟩ : ∃ j, k = j + 1 := ⟨k - 1, by rw [List.length_cons] at ok; omega⟩
            have okz : zs.length + 1 ≤ k + 1 := ok
            refine ⟨by decide, by decide, for_it walk_range (fun i σ H' => ∃ o6 o7 o8 : Option V, σ = [some (.ref src), some (.ref th), some (.ref o), some (.ref d), some (.ref D), some (.ref b0), o6, o7, o8, none] ∧ SameBut src H3 H' ∧ Src H' src ∧ ∃ (us' : List V) (trs : List Tr), H' b0 = some (.lst us') ∧ DpAll K H' us' (trs.map trD) ∧ trs.length = i ∧ ∀ tr ∈ trs, dep tr ≤ zs.length) ⟨none, none, none, rfl, Bx.Same.but sb0, src_same hA3 sb0, [], [], hb0, .nil, rfl, fun tr h => (nomatch h)⟩ (fun _ _ _ _ _ => trivial) ?_ ?_⟩
            · rintro i x σ H4a H4 hi ⟨o6, o7, o8, rfl, b4, hA4, us', trs, hL, dL, tl4, tR⟩ ⟨rfl, rfl⟩
              have hi3 : i < 3 := hi
              have hd4 := Go.dkB hA3 b4 hd3
              have ho4 := b4 _ _ nos ho3
              have kp4 : Kp K H3 H4 := Go.kp_but hA3 b4
              have kp04 := kp03.trans kp4
              walk_at "rd"
              refine fun m nm => ?_
              have dm : d ≠ m := fun e => by rw [← e, hd4] at nm; cases nm
              have sm := same_new nm (o := .dK [])
              have hm0 := upd_same (H := H4) (a := m) (o := .dK [])
              generalize upd H4 m (.dK []) = H5 at sm hm0 ⊢
              walk_at "rd"
              refine ⟨_, _, _, _, rfl, rfl, sq (sm _ _ ho4), atI_nat (j := 0) rfl, ?_⟩
              walk_at "rd"
              refine ⟨hm0, [(.inr z, .int (0 + (i : Int)))], rfl, (show 1 ≤ 15 by decide), ?_⟩
              have eM : mergeK [] [((.inr z : Key), V.int (0 + (i : Int)))] = asV ((z, (i : Int)) :: l.take 0) := by
                rw [Int.zero_add]
                rfl
              rw [eM]
              clear eM
              have hm2 := upd_same (H := H5) (a := m) (o := .dK (asV ((z, (i : Int)) :: l.take 0)))
              have sM : Same H4 (upd H5 m (.dK (asV ((z, (i : Int)) :: l.take 0)))) := same_at nm sm
              generalize upd H5 m (.dK (asV ((z, (i : Int)) :: l.take 0))) = H6 at hm2 sM ⊢
              have hd6 := sM _ _ hd4
              walk_at "rd"
              refine ⟨d, .dK (asV l), hd6, trivial, fun od => ?_⟩
              walk_at "rd"
              refine ⟨d, od, rfl, .inl ⟨asV l, upd_same, ?_⟩⟩
              have al2 : (asV l).length = l.length := List.length_map _
              refine for_it walk_keys (fun j σ H' => ∃ o8 : Option V, σ = [some (.ref src), some (.ref th), some (.ref o), some (.ref d), some (.ref D), some (.ref b0), some (.int (0 + (i : Int))), some (.ref m), o8, none] ∧ H' d = some (.frz od (.dK (asV l))) ∧ H' m = some (.dK (asV ((z, (i : Int)) :: l.take j))) ∧ ∀ b, b ≠ m → b ≠ d → H' b = H6 b) ⟨o8, rfl, upd_same, by rw [upd_ne (Ne.symm dm)]; exact hm2, fun b h1 h2 => upd_ne h2⟩ (fun j σ H' _ ⟨_, _, h, _⟩ => h) ?_ ?_
              · rintro j x σ H7 H7' hj ⟨o8, rfl, hd7, hm7, ot⟩ ⟨rfl, kk, yy, hk, rfl⟩
                have hk2 : (l[j]?).map (fun p => ((.inr p.1 : Key), V.int p.2)) = some (kk, yy) := by
                  rw [← List.getElem?_map]
                  exact hk
                obtain ⟨e, he, ee⟩ := Option.map_eq_some_iff.mp hk2
                cases ee
                walk_at "rd"
                refine ⟨d, .int e.2, rfl, .inl ⟨asV l, .inr e.1, .inr ⟨od, hd7⟩, rfl, ?_⟩, ?_⟩
                · rw [val_at_as ndl he]
                walk_at "rd"
                have tl1 : (asV ((z, (i : Int)) :: l.take j)).length ≤ l.length + 1 := by
                  show (List.map _ ((z, (i : Int)) :: l.take j)).length ≤ _
                  rw [List.length_map, List.length_cons]
                  have := List.length_take_le' j l
                  omega
                refine ⟨m, _, rfl, DPut.k (k := .inr e.1) hm7 (szl (by omega)), ?_⟩
                rw [more_put ndl nin he]
                exact ⟨_, rfl, by rw [upd_ne dm]; exact hd7, upd_same, fun b h1 h2 => by rw [upd_ne h1]; exact ot b h1 h2⟩
              · rintro σ H7 ⟨o8, rfl, hd7, hm7, ot⟩
                rw [al2, List.take_length] at hm7
                walk_at "rd"
                refine ⟨hd7, ?_⟩
                walk_at "rd"
                have hm8 : (upd H7 d (.dK (asV l))) m = some (.dK (asV ((z, (i : Int)) :: l))) := by rw [upd_ne (Ne.symm dm)]; exact hm7
                have s8 : Same H4 (upd H7 d (.dK (asV l))) := fun b o hb => by
                  by_cases bd : b = d
                  · rw [bd, upd_same, ← hd4, ← bd]
                    exact hb
                  · have bm : b ≠ m := fun e => by rw [e, nm] at hb; cases hb
                    rw [upd_ne bd, ot b bm bd]
                    exact sM _ _ hb
                generalize upd H7 d (.dK (asV l)) = H8 at hm8 s8 ⊢
                have hA8 := src_same hA4 s8
                refine ⟨.inl ⟨rfl, _, sq (s8 _ _ hL)⟩, ?_⟩
                walk_at "rd"
                unfold tNoPart
                refine ⟨o, _, rfl, sq (s8 _ _ ho4), fun o2 no2 => ?_⟩
                rw [show (1 : Int) = ((1 : Nat) : Int) from rfl, cut_suf]
                rw [show (List.map V.str (z :: zs)).drop 1 = zs.map V.str from rfl]
                have s9 := same_new no2 (o := .lst (zs.map V.str))
                have ho9 := upd_same (H := H8) (a := o2) (o := .lst (zs.map V.str))
                have no2s : o2 ≠ src := (src_ne hA8 no2).symm
                generalize upd H8 o2 (.lst (zs.map V.str)) = H9 at s9 ho9 ⊢
                have s49 := s8.trans s9
                have hA9 := src_same hA8 s9
                walk_at "rd"
                refine ⟨src, th, o2, m, ns, zs, ts, (z, (i : Int)) :: l, rfl, hA9, (hth.kp kp04).same s49, tok, tl, no2s, ho9, by omega, s9 _ _ hm8, ?_, by rw [List.length_cons]; omega, fun v tr H10 b10 hA10 dv dl => ?_⟩
                · show (z :: (l.map (·.1) ++ zs)).Nodup
                  refine List.nodup_cons.mpr ⟨fun h => ?_, List.nodup_append.mpr ⟨ndl, (List.nodup_cons.mp ndz).2, fun a ha b hb => (List.nodup_append.mp nd).2.2 a ha b (List.mem_cons_of_mem _ hb)⟩⟩
                  rcases List.mem_append.mp h with h | h
                  · exact nin h
                  · exact (List.nodup_cons.mp ndz).1 h
                have b410 : SameBut src H4 H10 := (Bx.Same.but s49).trans b10
                have hL10 := b410 _ _ nb0s hL
                have ul : us'.length < 3 := by rw [da_len dL, List.length_map]; omega
                walk_at "rd"
                refine ⟨_, _, _, rfl, rfl, hL10, szl (by omega), ?_⟩
                refine ⟨_, _, _, rfl, but_at nb0 (b4.trans b410), src_upd hA10 nb0s.symm, us' ++ [v], trs ++ [tr], upd_same, ?_, by rw [List.length_append, tl4]; rfl, fun t ht => ?_⟩
                · rw [List.map_append]
                  exact Go.da_put hL10 (Go.tupAll_map tup_tr _) (tup_tr tr) (Go.daB hA4 b410 (Go.tupAll_map tup_tr _) dL) dv
                · rcases List.mem_append.mp ht with h | h
                  · exact tR t h
                  · rw [List.mem_singleton.mp h]
                    exact dl
            · rintro σ H4 ⟨o6, o7, o8, rfl, b4, hA4, us', trs, hL, dL, tl4, tR⟩
              have tl3 : trs.length = 3 := tl4
              obtain ⟨a, b, c, rfl⟩ : ∃ a b c, trs = [a, b, c] := by
                match trs, tl3 with
                | [a, b, c], _ => exact ⟨a, b, c, rfl⟩
              obtain ⟨va, vb, vc, rfl, da, db, dc⟩ : ∃ va vb vc, us' = [va, vb, vc] ∧ Dp K H4 va (trD a) ∧ Dp K H4 vb (trD b) ∧ Dp K H4 vc (trD c) := by
                cases dL with
                | cons h1 t1 =>
                  cases t1 with
                  | cons h2 t2 =>
                    cases t2 with
                    | cons h3 t3 =>
                      cases t3
                      exact ⟨_, _, _, rfl, h1, h2, h3⟩
              have ho4 := b4 _ _ nos ho3
              walk_at "rd"
              refine ⟨_, _, _, _, rfl, rfl, sq ho4, atI_nat (j := 0) rfl, ?_⟩
              walk_at "rd"
              refine ⟨_, _, _, _, rfl, rfl, sq hL, atI_nat (j := 0) rfl, ?_⟩
              walk_at "rd"
              refine ⟨_, _, _, _, rfl, rfl, sq hL, atI_nat (j := 1) rfl, ?_⟩
              walk_at "rd"
              refine ⟨_, _, _, _, rfl, rfl, sq hL, atI_nat (j := 2) rfl, ?_⟩
              walk_at "rd"
              tm_at "al R"
              have ra := tR a (by simp)
              have rb := tR b (by simp)
              have rc := tR c (by simp)
              refine q (.ref R) (.node z a b c) HR (b03.trans (b4.trans (Bx.Same.but sR))) (src_same hA4 sR) (.tup (sqt hR) (.cons (.str z) (.cons (dp_same sR da) (.cons (dp_same sR db) (.cons (dp_same sR dc) .nil))))) ?_
              show 1 + max (dep a) (max (dep b) (dep c)) ≤ zs.length + 1
              omega
end
end K21
namespace K21
open Go (tupD tupAll Tk tk_same Tk.trans tk_lst dp_tk da_tk All2)
open PySem PySem.Spec PyProof.Rows L2 Bx TL Dx Zx Ow Sup NdefX Px
local macro_rules | `(tactic| walk_at "rd") => `(tactic| repeat (first | refine ⟨rfl, ?_⟩ | refine ⟨_, rfl, ?_⟩ | refine ⟨_, _, rfl, rfl, ?_⟩ | refine ⟨⟨_, rfl⟩, ?_⟩))
local macro_rules
  | `(tactic| tm_at $s:str) => do
    let id (x : String) := Lean.mkIdent (Lean.Name.mkSimple x)
    match s.getString.splitOn " " with
    | ["rd"] => `(tactic| walk_at "rd")
    | ["sz"] => `(tactic| first | exact sz (by decide) | exact szl (by decide) | exact sz (by show _ ≤ 100000; decide) | ((first | refine sz ?_ | refine szl ?_); (try simp only [List.length_map, List.length_append, List.length_cons, List.length_nil, List.length_take, List.length_drop]); omega) | fail "sz: no bound")
    | ["gn", p, h] => `(tactic| (generalize hu : upd _ $(id p) _ = $(id ("H" ++ p)); obtain ⟨$(id ("s" ++ p)), $(id h)⟩ := Go.al $(id ("n" ++ p)) hu; clear hu))
    | ["al", p] => `(tactic| (refine ⟨by tm_at "sz", fun $(id p) $(id ("n" ++ p)) => ?_⟩; generalize hu : upd _ $(id p) _ = $(id ("H" ++ p)); obtain ⟨$(id ("s" ++ p)), $(id ("h" ++ p))⟩ := Go.al $(id ("n" ++ p)) hu; clear hu; tm_at "rd"))
    | ["al0", p] => `(tactic| (refine ⟨by tm_at "sz", fun $(id p) $(id ("n" ++ p)) => ?_⟩; generalize hu : upd _ $(id p) _ = $(id ("H" ++ p)); obtain ⟨$(id ("s" ++ p)), $(id ("h" ++ p))⟩ := Go.al $(id ("n" ++ p)) hu; clear hu; tm_at "rd"))
    | ["new", p] => `(tactic| (refine fun $(id p) $(id ("n" ++ p)) => ?_; generalize hu : upd _ $(id p) _ = $(id ("H" ++ p)); obtain ⟨$(id ("s" ++ p)), $(id ("h" ++ p))⟩ := Go.al $(id ("n" ++ p)) hu; clear hu; tm_at "rd"))
    | ["new0", p] => `(tactic| (refine fun $(id p) $(id ("n" ++ p)) => ?_; generalize hu : upd _ $(id p) _ = $(id ("H" ++ p)); obtain ⟨$(id ("s" ++ p)), $(id ("h" ++ p))⟩ := Go.al $(id ("n" ++ p)) hu; clear hu; tm_at "rd"))
    | ["up"] => `(tactic| first
        | assumption | exact sq (by assumption) | exact sqt (by assumption) | exact PlT.sq (by assumption)
        | (refine' Bx.Same.tup (by assumption) ?hh; (case hh => tm_at "up")) | (refine' Same.seq (by assumption) ?hh; (case hh => tm_at "up")) | (refine' Go.get (by assumption) ?hh; (case hh => tm_at "up")) | (refine' dpAll_same (by assumption) ?hh; (case hh => tm_at "up")) | (refine' dp_same (by assumption) ?hh; (case hh => tm_at "up")) | (refine' PlT.same (by assumption) ?hh; (case hh => tm_at "up")) | (refine' Go.srcS (by assumption) ?hh; (case hh => tm_at "up"))
        | (refine' Go.tupB (s := _) (by assumption) (by assumption) ?hh; (case hh => tm_at "up")) | (refine' Go.dkB (s := _) (by assumption) (by assumption) ?hh; (case hh => tm_at "up")) | (refine' Go.insB (s := _) (by assumption) (by assumption) ?hh; (case hh => tm_at "up")) | (refine' Go.pltB (s := _) (by assumption) (by assumption) ?hh; (case hh => tm_at "up"))
        | (refine' Go.getB (by assumption) (by first | assumption | exact Ne.symm (by assumption)) ?hh; (case hh => tm_at "up"))
        | (refine' sq ?hh; (case hh => tm_at "raw")) | (refine' sqt ?hh; (case hh => tm_at "raw")) | (refine' PlT.sq ?hh; (case hh => tm_at "raw")) | fail "up: no fact")
    | ["raw"] => `(tactic| first
        | assumption | (refine' Go.get (by assumption) ?hh; (case hh => tm_at "raw")) | (refine' PlT.same (by assumption) ?hh; (case hh => tm_at "raw")) | (refine' Go.pltB (s := _) (by assumption) (by assumption) ?hh; (case hh => tm_at "raw")) | (refine' Go.getB (by assumption) (by first | assumption | exact Ne.symm (by assumption)) ?hh; (case hh => tm_at "raw")) | fail "raw: no fact")
    | ["sq"] => `(tactic| first | exact .inl (by tm_at "up") | exact .inr (by tm_at "up") | fail "sq: no fact")
    | ["ix", j] => `(tactic| (refine ⟨_, _, _, _, rfl, rfl, by tm_at "up", by exact atI_nat (j := $(Lean.Syntax.mkNumLit j)) rfl, ?_⟩; tm_at "rd"))
    | ["ixh", h] => `(tactic| (refine ⟨_, _, _, _, rfl, rfl, by tm_at "up", by first | exact Go.at_mapV $(id h) | exact Go.at_mapZ $(id h) | exact atI_nat $(id h) | exact Go.at_nat0 $(id h), ?_⟩; tm_at "rd"))
    | ["len"] => `(tactic| (refine ⟨_, _, rfl, by tm_at "sq", ?_⟩; (try rw [List.length_map]); tm_at "rd"))
    | ["tp", p] => `(tactic| (refine ⟨_, _, rfl, .inl ⟨by tm_at "up", fun $(id p) $(id ("n" ++ p)) => ?_⟩⟩; generalize hu : upd _ $(id p) _ = $(id ("H" ++ p)); obtain ⟨$(id ("s" ++ p)), $(id ("h" ++ p))⟩ := Go.al $(id ("n" ++ p)) hu; clear hu; tm_at "rd"))
    | ["tp0", p] => `(tactic| (refine ⟨_, _, rfl, .inl ⟨by tm_at "up", fun $(id p) $(id ("n" ++ p)) => ?_⟩⟩; generalize hu : upd _ $(id p) _ = $(id ("H" ++ p)); obtain ⟨$(id ("s" ++ p)), $(id ("h" ++ p))⟩ := Go.al $(id ("n" ++ p)) hu; clear hu; tm_at "rd"))
    | ["ls", p] => `(tactic| (refine ⟨_, _, rfl, by tm_at "sq", fun $(id p) $(id ("n" ++ p)) => ?_⟩; generalize hu : upd _ $(id p) _ = $(id ("H" ++ p)); obtain ⟨$(id ("s" ++ p)), $(id ("h" ++ p))⟩ := Go.al $(id ("n" ++ p)) hu; clear hu; tm_at "rd"))
    | ["ls0", p] => `(tactic| (refine ⟨_, _, rfl, by tm_at "sq", fun $(id p) $(id ("n" ++ p)) => ?_⟩; generalize hu : upd _ $(id p) _ = $(id ("H" ++ p)); obtain ⟨$(id ("s" ++ p)), $(id ("h" ++ p))⟩ := Go.al $(id ("n" ++ p)) hu; clear hu; tm_at "rd"))
    | ["tf", p] => `(tactic| (refine ⟨_, _, rfl, by tm_at "up", fun $(id p) $(id ("o" ++ p)) $(id ("n" ++ p)) $(id ("d" ++ p)) => ?_⟩; generalize hu : upd _ $(id p) _ = $(id ("H" ++ p)); obtain ⟨$(id ("s" ++ p)), $(id ("h" ++ p))⟩ := Go.alF $(id ("n" ++ p)) $(id ("d" ++ p)) hu; clear hu; tm_at "rd"))
    | ["alF", p] => `(tactic| (refine ⟨by tm_at "sz", fun $(id p) $(id ("o" ++ p)) $(id ("n" ++ p)) $(id ("d" ++ p)) => ?_⟩; generalize hu : upd _ $(id p) _ = $(id ("H" ++ p)); obtain ⟨$(id ("s" ++ p)), $(id ("h" ++ p))⟩ := Go.alF $(id ("n" ++ p)) $(id ("d" ++ p)) hu; clear hu; tm_at "rd"))
    | ["bare", k] => `(tactic| (refine fun $(id k) $(id ("d" ++ k)) $(id ("n" ++ k)) $(id ("nd" ++ k)) $(id ("ne" ++ k)) => ?_; generalize hu : upd (upd _ $(id ("d" ++ k)) _) $(id k) _ = $(id ("H" ++ k)); obtain ⟨$(id ("s" ++ k)), $(id ("h" ++ k))⟩ := Go.bare $(id ("n" ++ k)) $(id ("nd" ++ k)) $(id ("ne" ++ k)) hu; clear hu; walk_at "rd"))
    | ["me"] => `(tactic| (refine ⟨_, _, _, rfl, by tm_at "up", rfl, ?_⟩; walk_at "rd"))
    | ["star"] => `(tactic| ((first | refine ⟨_, _, rfl, .inl (by tm_at "up"), ?_⟩ | refine ⟨_, _, rfl, .inr (by tm_at "up"), ?_⟩ | fail "star"); walk_at "rd"))
    | ["ap0"] => `(tactic| (refine ⟨.inl ⟨rfl, _, by tm_at "up"⟩, ?_⟩; tm_at "rd"))
    | ["ap"] => `(tactic| refine ⟨_, _, _, rfl, rfl, by tm_at "up", by tm_at "sz", ?_⟩)
    | ["un", n] => match n with
      | "2" => `(tactic| (refine ⟨_, _, rfl, by tm_at "up", rfl, _, _, rfl, _, _, rfl, rfl, ?_⟩; tm_at "rd"))
      | _ => `(tactic| (refine ⟨_, _, rfl, by tm_at "up", rfl, _, _, rfl, _, _, rfl, _, _, rfl, rfl, ?_⟩; tm_at "rd"))
    | _ => Lean.Macro.throwUnsupported
theorem none_but {H H' : Hp} {s x : Addr} (hA : Src H' s) (b : SameBut s H H') (h : H' x = none) : H x = none := by
  cases e : H x with
  | none => rfl
  | some ob =>
    by_cases ex : x = s
    · rw [ex] at h
      exact (src_ne hA h rfl).elim
    · rw [b _ _ ex e] at h
      cases h
section
variable {P : Program} {w : World} {K : PySem.W.Frag} {mg : Str → Option Value} {base : Heap}
@[irreducible] def spSpoilt (K : PySem.W.Frag) : Sp := fun vs H Q _ => ∃ (src na : Addr) (ns : List Str) (v : V) (tr : Tr) (n : Nat), vs = [.ref src, .ref na, v, .int (n : Int)] ∧ Src H src ∧ SqT K H na (ns.map V.str) ∧ ns.length ≤ 20 ∧ n ≤ 100 ∧ Dp K H v (trD tr) ∧ ∀ (v' : V) (tr' : Tr) (H' : Hp), SameBut src H H' → Src H' src → Dp K H' v' (trD tr') → dep tr' ≤ dep tr + 1 → Q v' H'
set_option maxHeartbeats 2000000 in
theorem ok_spoilt {f : Addr} {fd : FuncData} (F : Fun K "_law_spoilt" "_law_spoilt" s__law_spoilt f fd) (m_len : mg "len" = none) (m_list : mg "list" = none) (m_isinstance : mg "isinstance" = none) (m_int : mg "int" = none) (C__law_draw : CDraw P w K mg base) (C__law_leaf : Cal P w K mg base "_law_leaf" 2 ["_law_source_here", "_law_count"] spLeaf) : FnOk P w K mg base CX0 3 f fd ["_law_source_here", "_law_names", "_law_tree", "_law_count"] (spSpoilt K) := by
  refine F.ok sc__law_spoilt (fun vs H Q E h => ?_) (fun cdv A outer s H vs Q E hr h => ?_)
  · unfold spSpoilt at h
    obtain ⟨src, na, ns, v, tr, n, rfl, _⟩ := h
    rfl
  · unfold spSpoilt at h
    obtain ⟨src, na, ns, v, tr, n, rfl, hA, hna, nl, nn, hv, q⟩ := h
    refine ⟨_, (pss_cons (ps_set (i := 4) sc__law_spoilt.nd rfl (Or.inl rfl) (pe_op op_cat (pe_callTy (T := "list") call_list_of (by rfl) m_list (by decide +kernel) (pa_cons (pv 1) pa_nil)) (pe_lst (pa_cons pe_str pa_nil))))
    (pss_cons (ps_set (i := 5) sc__law_spoilt.nd rfl (Or.inl rfl) (pe_ix ix_list (pv 4) (pe_cal C__law_draw (hr.mono (by decide)) (pa_cons (pv 0) (pa_cons (pe_callB call_len_seq (by rfl) m_len PySem.boot_len (pa_cons (pv 4) pa_nil)) pa_nil))) (fun _ _ => rfl)))
    (pss_cons (ps_set (i := 6) sc__law_spoilt.nd rfl (Or.inl rfl) (pe_cal C__law_draw (hr.mono (by decide)) (pa_cons (pv 0) (pa_cons pe_int pa_nil))))
    (pss_cons (ps_if (pt_val (pe_callB (id := "isinstance") call_isi (by rfl) m_isinstance (by decide +kernel) (pa_cons (pv 2) (pa_cons (pe_bltn (v := .ty "int") (by rfl) m_int (by decide +kernel) rfl) pa_nil))))
      (pss_cons (ps_if (pt_cmpR op_eq (pv 6) pe_int (nomark _))
      (pss_one (ps_ret (pe_tup (pa_cons (pv 5) (pa_cons (pv 2) (pa_cons (pv 2) (pa_cons (pv 2) pa_nil)))))))
      pss_nil)
    (pss_one (ps_ret (pe_cal C__law_leaf (hr.mono (by decide)) (pa_cons (pv 0) (pa_cons (pv 3) pa_nil))))))
      pss_nil)
    (pss_cons (ps_if (pt_cmpR op_eq (pv 6) pe_int (nomark _))
      (pss_one (ps_ret (pe_cal C__law_leaf (hr.mono (by decide)) (pa_cons (pv 0) (pa_cons (pv 3) pa_nil)))))
      pss_nil)
    (pss_cons (ps_if (pt_cmpR op_eq (pv 6) pe_int (nomark _))
      (pss_one (ps_ret (pe_tup (pa_cons (pv 5) (pa_cons (pe_ix ix_tup (pv 2) pe_int (fun _ _ => rfl)) (pa_cons (pe_ix ix_tup (pv 2) pe_int (fun _ _ => rfl)) (pa_cons (pe_ix ix_tup (pv 2) pe_int (fun _ _ => rfl)) pa_nil)))))))
      pss_nil)
    (pss_cons (ps_if (pt_cmpR op_eq (pv 6) pe_int (nomark _))
      (pss_one (ps_ret (pe_tup (pa_cons (pe_ix ix_tup (pv 2) pe_int (fun _ _ => rfl)) (pa_cons (pe_ix ix_tup (pv 2) pe_int (fun _ _ => rfl)) (pa_cons (pe_ix ix_tup (pv 2) pe_int (fun _ _ => rfl)) (pa_cons (pe_ix ix_tup (pv 2) pe_int (fun _ _ => rfl)) pa_nil)))))))
      pss_nil)
    (pss_cons (ps_if (pt_cmpR op_eq (pv 6) pe_int (nomark _))
      (pss_one (ps_ret (pe_tup (pa_cons (pe_ix ix_tup (pv 2) pe_int (fun _ _ => rfl)) (pa_cons (pe_ix ix_tup (pv 2) pe_int (fun _ _ => rfl)) (pa_cons (pe_ix ix_tup (pv 2) pe_int (fun _ _ => rfl)) (pa_cons (pe_ix ix_tup (pv 2) pe_int (fun _ _ => rfl)) pa_nil)))))))
      pss_nil)
    (pss_one (ps_ret (pe_tup (pa_cons (pe_ix ix_tup (pv 2) pe_int (fun _ _ => rfl)) (pa_cons (pe_ix ix_tup (pv 2) pe_int (fun _ _ => rfl)) (pa_cons (pe_ix ix_tup (pv 2) pe_int (fun _ _ => rfl)) (pa_cons (pe_ix ix_tup (pv 2) pe_int (fun _ _ => rfl)) pa_nil))))))))))))))), ?_⟩
    walk_at "rd"
    tm_at "ls l1"
    tm_at "al l2"
    have sl := sl1.trans sl2
    refine ⟨l1, l2, _, _, rfl, rfl, sl2 _ _ hl1, hl2, sz (by rw [List.length_map]; show ns.length + 1 ≤ 100000; omega), fun M nM => ?_⟩
    have eM : ns.map V.str ++ [V.str (Str.ofString "zz")] = (ns ++ [Str.ofString "zz"]).map V.str := by
      rw [List.map_append]
      rfl
    rw [eM]
    have s3 := same_new nM (o := .lst ((ns ++ [Str.ofString "zz"]).map V.str))
    have hM := upd_same (H := Hl2) (a := M) (o := .lst ((ns ++ [Str.ofString "zz"]).map V.str))
    generalize upd Hl2 M (.lst ((ns ++ [Str.ofString "zz"]).map V.str)) = H3 at s3 hM ⊢
    have s03 := sl.trans s3
    have hA3 := src_same hA s03
    have nMs : M ≠ src := (src_ne hA (sl.free nM)).symm
    generalize hms : ns ++ [Str.ofString "zz"] = marks at hM
    have mlen : marks.length = ns.length + 1 := by rw [← hms, List.length_append]; rfl
    walk_at "rd"
    refine ⟨_, _, rfl, .inl (sq hM), ?_⟩
    rw [List.length_map]
    walk_at "rd"
    refine draw_of hA3 ⟨by omega, by omega⟩ fun i H4 i0 i1 b4 hA4 => ?_
    obtain ⟨j, rfl⟩ : ∃ j : Nat, i = (j : Int) := ⟨i.toNat, by omega⟩
    have lj : j < marks.length := by omega
    have ej := List.getElem?_eq_getElem lj
    generalize marks[j] = mk at ej
    refine ⟨_, _, _, _, rfl, rfl, sq (b4 _ _ nMs hM), Go.at_mapV ej, ?_⟩
    walk_at "rd"
    refine draw_of hA4 ⟨by decide, by decide⟩ fun way H6 w0 w1 b6 hA6 => ?_
    have b06 : SameBut src H H6 := (Bx.Same.but s03).trans (b4.trans b6)
    have hv6 := Go.dpB hA b06 (tup_tr tr) hv
    have fin : ∀ (mk : Str) (x y z : V) (a b c : Tr) (R : Addr) (HR : Hp), Dp K H6 x (trD a) → Dp K H6 y (trD b) → Dp K H6 z (trD c) → 1 + max (dep a) (max (dep b) (dep c)) ≤ dep tr + 1 → Same H6 HR → HR R = some (.tup [.str mk, x, y, z]) → Q (.ref R) HR := fun mk x y z a b c R HR dx dy dz dl sR hR =>
      q (.ref R) (.node mk a b c) HR (b06.trans (Bx.Same.but sR)) (src_same hA6 sR) (.tup (sqt hR) (.cons (.str mk) (.cons (dp_same sR dx) (.cons (dp_same sR dy) (.cons (dp_same sR dz) .nil))))) dl
    walk_at "rd"
    cases tr with
    | leaf i =>
      obtain rfl := tr_leaf hv6
      refine ⟨_, _, _, _, true, rfl, .ty "int", .base (.int _), kit_ty (by decide +kernel), ?_⟩
      walk_at "rd"
      refine ite2 (fun _ => ?_) (fun _ => ?_)
      · walk_at "rd"
        tm_at "al R"
        exact fin mk _ _ _ (.leaf i) (.leaf i) (.leaf i) R HR hv6 hv6 hv6 (Nat.le_refl _) sR hR
      · walk_at "rd"
        show spLeaf _ _ _ _
        unfold spLeaf
        exact ⟨src, n, rfl, hA6, nn, fun j H7 b7 hA7 => q (.int j) (.leaf j) H7 (b06.trans b7) hA7 (.int _) (Nat.zero_le _)⟩
    | node sn a b c =>
      obtain ⟨p, va, vb, vc, rfl, hp, ha, hb, hc⟩ := tr_node hv6
      have dT : dep (.node sn a b c) = 1 + max (dep a) (max (dep b) (dep c)) := rfl
      refine ⟨_, _, _, _, false, rfl, .ty "int", ty_tup hp, kit_ty (by decide +kernel), ?_⟩
      walk_at "rd"
      refine ite2 (fun _ => ?_) (fun _ => ?_)
      · walk_at "rd"
        show spLeaf _ _ _ _
        unfold spLeaf
        exact ⟨src, n, rfl, hA6, nn, fun j H7 b7 hA7 => q (.int j) (.leaf j) H7 (b06.trans b7) hA7 (.int _) (Nat.zero_le _)⟩
      walk_at "rd"
      refine ite2 (fun _ => ?_) (fun _ => ?_)
      · walk_at "rd"
        tm_at "ix 1"
        tm_at "ix 2"
        tm_at "ix 3"
        tm_at "al R"
        exact fin mk _ _ _ a b c R HR ha hb hc (by omega) sR hR
      walk_at "rd"
      refine ite2 (fun _ => ?_) (fun _ => ?_)
      · walk_at "rd"
        tm_at "ix 0"
        tm_at "ix 2"
        tm_at "ix 1"
        tm_at "ix 3"
        tm_at "al R"
        exact fin sn _ _ _ b a c R HR hb ha hc (by omega) sR hR
      walk_at "rd"
      refine ite2 (fun _ => ?_) (fun _ => ?_)
      · walk_at "rd"
        tm_at "ix 0"
        tm_at "ix 1"
        tm_at "ix 1"
        tm_at "ix 3"
        tm_at "al R"
        exact fin sn _ _ _ a a c R HR ha ha hc (by omega) sR hR
      · walk_at "rd"
        tm_at "ix 0"
        tm_at "ix 3"
        tm_at "ix 2"
        tm_at "ix 1"
        tm_at "al R"
        exact fin sn _ _ _ c b a R HR hc hb ha (by omega) sR hR
def spChanged (K : PySem.W.Frag) : Nat → Sp
  | 0 => fun _ _ _ _ => False
  | k + 1 => fun vs H Q _ => ∃ (src na : Addr) (ns : List Str) (v : V) (tr : Tr) (n m : Nat), vs = [.ref src, .ref na, v, .int (n : Int), .int (m : Int)] ∧ Src H src ∧ SqT K H na (ns.map V.str) ∧ ns.length ≤ 20 ∧ n ≤ 100 ∧ m ≤ k ∧ Dp K H v (trD tr) ∧ ∀ (v' : V) (tr' : Tr) (H' : Hp), SameBut src H H' → Src H' src → Dp K H' v' (trD tr') → dep tr' ≤ dep tr + 1 → Q v' H'
set_option maxHeartbeats 2000000 in
theorem ok_changed {f : Addr} {fd : FuncData} (F : Fun K "_law_changed" "_law_changed" s__law_changed f fd) (m_isinstance : mg "isinstance" = none) (m_int : mg "int" = none) (m_list : mg "list" = none) (m_tuple : mg "tuple" = none) (C__law_draw : CDraw P w K mg base) (C__law_spoilt : Cal P w K mg base "_law_spoilt" 3 ["_law_source_here", "_law_names", "_law_tree", "_law_count"] (spSpoilt K))
    (gS : mg "_law_changed" = some (.ref f)) (kS : PySem.W.keepIn K (.ref f) = true) (bS : Binds K fd ["_law_source_here", "_law_names", "_law_tree", "_law_count", "_law_depth"] []) : ∀ k : Nat, FnOk P w K mg base CX0 (k + 3) f fd ["_law_source_here", "_law_names", "_law_tree", "_law_count", "_law_depth"] (spChanged K k)
  | 0 => F.ok sc__law_changed (fun vs H Q E h => h.elim) (fun cdv A outer s H vs Q E hr h => h.elim)
  | k + 1 => by
    have C__law_changed : Cal P w K mg base "_law_changed" (k + 3) ["_law_source_here", "_law_names", "_law_tree", "_law_count", "_law_depth"] (spChanged K k) := ⟨_, _, ok_changed F m_isinstance m_int m_list m_tuple C__law_draw C__law_spoilt gS kS bS k, gS, kS, bS⟩
    refine F.ok sc__law_changed (fun vs H Q E h => ?_) (fun cdv A outer s H vs Q E hr h => ?_)
    · obtain ⟨src, na, ns, v, tr, n, m, rfl, _⟩ := h
      rfl
    · obtain ⟨src, na, ns, v, tr, n, m, rfl, hA, hna, nl, nn, mk, hv, q⟩ := h
      refine ⟨_, (pss_cons (ps_if (PW.pt (pw_or (pt_val (pe_callB (id := "isinstance") call_isi (by rfl) m_isinstance (by decide +kernel) (pa_cons (pv 2) (pa_cons (pe_bltn (v := .ty "int") (by rfl) m_int (by decide +kernel) rfl) pa_nil)))) (pw_or (pt_cmpR op_eq (pv 4) pe_int (nomark _)) (pw_or1 (pt_cmpR op_eq (pe_cal C__law_draw (hr.mono (by omega)) (pa_cons (pv 0) (pa_cons pe_int pa_nil))) pe_int (nomark _))))))
      (pss_one (ps_ret (pe_cal C__law_spoilt (hr.mono (by omega)) (pa_cons (pv 0) (pa_cons (pv 1) (pa_cons (pv 2) (pa_cons (pv 3) pa_nil)))))))
      pss_nil)
    (pss_cons (ps_set (i := 5) sc__law_changed.nd rfl (Or.inl rfl) (pe_op op_add pe_int (pe_cal C__law_draw (hr.mono (by omega)) (pa_cons (pv 0) (pa_cons pe_int pa_nil)))))
    (pss_cons (ps_set (i := 6) sc__law_changed.nd rfl (Or.inl rfl) (pe_callTy (T := "list") call_list_of (by rfl) m_list (by decide +kernel) (pa_cons (pv 2) pa_nil)))
    (pss_cons (ps_asg (pe_cal C__law_changed (hr.mono (by omega)) (pa_cons (pv 0) (pa_cons (pv 1) (pa_cons (pe_ix ix_tup (pv 2) (pv 5) (fun _ _ => rfl)) (pa_cons (pv 3) (pa_cons (pe_op op_sub (pv 4) pe_int) pa_nil)))))) (pg_sub (pv 6) (pv 5) set_list))
    (pss_one (ps_ret (pe_callTy (T := "tuple") call_tuple_of (by rfl) m_tuple (by decide +kernel) (pa_cons (pv 6) pa_nil)))))))), ?_⟩
      dsimp only [tSeq, tIfS]
      refine st_test (fun b H' => SameBut src H H' ∧ Src H' src ∧ (b = false → m ≠ 0 ∧ ∃ sn a b c, tr = .node sn a b c)) ?_ ?_
      · intro Z' hZ'
        walk_at "rd"
        cases tr with
        | leaf i =>
          obtain rfl := tr_leaf hv
          refine ⟨_, _, _, _, true, rfl, .ty "int", .base (.int _), kit_ty (by decide +kernel), ?_⟩
          walk_at "rd"
          exact hZ' _ _ ⟨fun _ _ _ h => h, hA, fun h => (nomatch h)⟩
        | node sn a b c =>
          obtain ⟨p, va, vb, vc, rfl, hp, ha, hb, hc⟩ := tr_node hv
          refine ⟨_, _, _, _, false, rfl, .ty "int", ty_tup hp, kit_ty (by decide +kernel), ?_⟩
          walk_at "rd"
          refine ite2 (fun c => ?_) (fun c0 => ?_)
          · exact hZ' _ _ ⟨fun _ _ _ h => h, hA, fun h => (nomatch h)⟩
          · have m0 := int_f c0
            walk_at "rd"
            refine draw_of hA ⟨by decide, by decide⟩ fun x H3 _ _ b3 hA3 => ?_
            walk_at "rd"
            exact hZ' _ _ ⟨b3, hA3, fun _ => ⟨by omega, sn, a, b, c, rfl⟩⟩
      · rintro b H3 ⟨b3, hA3, ff⟩
        have hna3 := sqt_but hA b3 hna
        have hv3 := Go.dpB hA b3 (tup_tr tr) hv
        cases b with
        | true =>
          walk_at "rd"
          show spSpoilt K _ _ _ _
          unfold spSpoilt
          exact ⟨src, na, ns, v, tr, n, rfl, hA3, hna3, nl, nn, hv3, fun v' tr' H' b' hA' dv dl => q v' tr' H' (b3.trans b') hA' dv dl⟩
        | false =>
          obtain ⟨m0, sn, a, b, c, rfl⟩ := ff rfl
          obtain ⟨p, va, vb, vc, rfl, hp, ha, hb, hc⟩ := tr_node hv3
          have dT : dep (.node sn a b c) = 1 + max (dep a) (max (dep b) (dep c)) := rfl
          obtain ⟨k, rfl⟩ : ∃ j, k = j + 1 := ⟨k - 1, by omega⟩
          walk_at "rd"
          refine draw_of hA3 ⟨by decide, by decide⟩ fun at_ H4 a0 a1 b4 hA4 => ?_
          obtain ⟨j, rfl⟩ : ∃ j : Nat, at_ = (j : Int) := ⟨at_.toNat, by omega⟩
          have lj : j < 3 := by omega
          have hp4 := sqt_but hA3 b4 hp
          walk_at "rd"
          tm_at "ls L"
          have hA5 := src_same hA4 sL
          have b35 : SameBut src H3 HL := b4.trans (Bx.Same.but sL)
          have ha5 := Go.dpB hA3 b35 (tup_tr a) ha
          have hb5 := Go.dpB hA3 b35 (tup_tr b) hb
          have hc5 := Go.dpB hA3 b35 (tup_tr c) hc
          have hp5 := Bx.Same.tup sL hp4
          have nLs : L ≠ src := (src_ne hA4 nL).symm
          obtain ⟨y, t, ey, dy, dl, rep⟩ : ∃ y t, [V.str sn, va, vb, vc][j + 1]? = some y ∧ Dp K HL y (trD t) ∧ 1 + dep t ≤ dep (.node sn a b c) ∧ ∀ (v' : V) (t' : Tr), dep t' ≤ dep t + 1 → ∃ tr', dep tr' ≤ dep (.node sn a b c) + 1 ∧ ∀ Hx p2, SqT K Hx p2 ([V.str sn, va, vb, vc].set (j + 1) v') → Dp K Hx v' (trD t') → Dp K Hx va (trD a) → Dp K Hx vb (trD b) → Dp K Hx vc (trD c) → Dp K Hx (.ref p2) (trD tr') := by
            match j, lj with
            | 0, _ => exact ⟨va, a, rfl, ha5, by omega, fun v' t' dt => ⟨.node sn t' b c, by show 1 + max (dep t') (max (dep b) (dep c)) ≤ _; omega, fun Hx p2 h d d1 d2 d3 => .tup h (.cons (.str sn) (.cons d (.cons d2 (.cons d3 .nil))))⟩⟩
            | 1, _ => exact ⟨vb, b, rfl, hb5, by omega, fun v' t' dt => ⟨.node sn a t' c, by show 1 + max (dep a) (max (dep t') (dep c)) ≤ _; omega, fun Hx p2 h d d1 d2 d3 => .tup h (.cons (.str sn) (.cons d1 (.cons d (.cons d3 .nil))))⟩⟩
            | 2, _ => exact ⟨vc, c, rfl, hc5, by omega, fun v' t' dt => ⟨.node sn a b t', by show 1 + max (dep a) (max (dep b) (dep t')) ≤ _; omega, fun Hx p2 h d d1 d2 d3 => .tup h (.cons (.str sn) (.cons d1 (.cons d2 (.cons d .nil))))⟩⟩
          have ei : (1 : Int) + (j : Int) = ((j + 1 : Nat) : Int) := by omega
          refine ⟨_, _, _, _, rfl, rfl, hp5, (by show atI _ ((1 : Int) + (j : Int)) = _; rw [ei]; exact atI_nat ey), ?_⟩
          walk_at "rd"
          refine ⟨src, na, ns, y, t, n, m - 1, (by show [V.ref src, V.ref na, y, V.int (n : Int), V.int ((m : Int) - 1)] = _; rw [show ((m : Int) - 1) = ((m - 1 : Nat) : Int) by omega]), hA5, sqt_but hA3 b35 hna3, nl, nn, by omega, dy, fun v' t' H6 b6 hA6 dv' dl' => ?_⟩
          obtain ⟨tr', dtr, mk'⟩ := rep v' t' dl'
          have hL6 := b6 _ _ nLs hL
          walk_at "rd"
          refine ⟨_, _, _, j + 1, rfl, rfl, hL6, (by match j, lj with | 0, _ => rfl | 1, _ => rfl | 2, _ => rfl), ?_⟩
          have kp := tk_lst (K := K) (o := .lst ([V.str sn, va, vb, vc].set (j + 1) v')) hL6
          have hL7 := upd_same (H := H6) (a := L) (o := .lst ([V.str sn, va, vb, vc].set (j + 1) v'))
          have hA7 := src_upd (u := .lst ([V.str sn, va, vb, vc].set (j + 1) v')) hA6 nLs.symm
          have b07 : SameBut src H (upd H6 L (.lst ([V.str sn, va, vb, vc].set (j + 1) v'))) := but_at (none_but hA3 b3 (none_but hA4 b4 nL)) (b3.trans (b35.trans b6))
          generalize upd H6 L (.lst ([V.str sn, va, vb, vc].set (j + 1) v')) = H7 at kp hL7 hA7 b07 ⊢
          walk_at "rd"
          refine ⟨_, _, rfl, .inl ⟨sq hL7, fun R nR => ?_⟩⟩
          have s8 := same_new nR (o := .tup ([V.str sn, va, vb, vc].set (j + 1) v'))
          have hR := upd_same (H := H7) (a := R) (o := .tup ([V.str sn, va, vb, vc].set (j + 1) v'))
          generalize upd H7 R (.tup ([V.str sn, va, vb, vc].set (j + 1) v')) = H8 at s8 hR ⊢
          have up : ∀ (x : V) (tt : Tr), Dp K HL x (trD tt) → Dp K H8 x (trD tt) := fun x tt h => dp_same s8 (dp_tk kp _ _ (tup_tr tt) (Go.dpB hA5 b6 (tup_tr tt) h))
          exact q (.ref R) tr' H8 (b07.trans (Bx.Same.but s8)) (src_same hA7 s8) (mk' H8 R (sqt hR) (dp_same s8 (dp_tk kp _ _ (tup_tr t') dv')) (up va a ha5) (up vb b hb5) (up vc c hc5)) dtr
def spGrown (K : PySem.W.Frag) : Nat → Sp
  | 0 => fun _ _ _ _ => False
  | k + 1 => fun vs H Q _ => ∃ (src na : Addr) (ns : List Str) (n m : Nat), vs = [.ref src, .ref na, .int (n : Int), .int (m : Int)] ∧ Src H src ∧ SqT K H na (ns.map V.str) ∧ ns.length ≤ 20 ∧ n ≤ 100 ∧ m ≤ k ∧ ∀ (v : V) (tr : Tr) (H' : Hp), SameBut src H H' → Src H' src → Dp K H' v (trD tr) → dep tr ≤ m → Q v H'
set_option maxHeartbeats 2000000 in
theorem ok_grown {f : Addr} {fd : FuncData} (F : Fun K "_law_grown" "_law_grown" s__law_grown f fd) (m_len : mg "len" = none) (m_list : mg "list" = none) (m_range : mg "range" = none) (C__law_draw : CDraw P w K mg base) (C__law_leaf : Cal P w K mg base "_law_leaf" 2 ["_law_source_here", "_law_count"] spLeaf)
    (gS : mg "_law_grown" = some (.ref f)) (kS : PySem.W.keepIn K (.ref f) = true) (bS : Binds K fd ["_law_source_here", "_law_names", "_law_count", "_law_depth"] []) : ∀ k : Nat, FnOk P w K mg base CX0 (k + 2) f fd ["_law_source_here", "_law_names", "_law_count", "_law_depth"] (spGrown K k)
  | 0 => F.ok sc__law_grown (fun vs H Q E h => h.elim) (fun cdv A outer s H vs Q E hr h => h.elim)
  | k + 1 => by
    have C__law_grown : Cal P w K mg base "_law_grown" (k + 2) ["_law_source_here", "_law_names", "_law_count", "_law_depth"] (spGrown K k) := ⟨_, _, ok_grown F m_len m_list m_range C__law_draw C__law_leaf gS kS bS k, gS, kS, bS⟩
    refine F.ok sc__law_grown (fun vs H Q E h => ?_) (fun cdv A outer s H vs Q E hr h => ?_)
    · obtain ⟨src, na, ns, n, m, rfl, _⟩ := h
      rfl
    · obtain ⟨src, na, ns, n, m, rfl, hA, hna, nl, nn, mk, q⟩ := h
      refine ⟨_, (pss_cons (ps_if (PW.pt (pw_or (pt_cmpR op_eq (pv 3) pe_int (nomark _)) (pw_or1 (pt_cmpR op_eq (pe_cal C__law_draw (hr.mono (by omega)) (pa_cons (pv 0) (pa_cons pe_int pa_nil))) pe_int (nomark _)))))
      (pss_one (ps_ret (pe_cal C__law_leaf (hr.mono (by omega)) (pa_cons (pv 0) (pa_cons (pv 2) pa_nil)))))
      pss_nil)
    (pss_cons (ps_set (i := 4) sc__law_grown.nd rfl (Or.inl rfl) (pe_op op_cat (pe_callTy (T := "list") call_list_of (by rfl) m_list (by decide +kernel) (pa_cons (pv 1) pa_nil)) (pe_lst (pa_cons pe_str pa_nil))))
    (pss_cons (ps_set (i := 5) sc__law_grown.nd rfl (Or.inl rfl) (pe_ix ix_list (pv 4) (pe_cal C__law_draw (hr.mono (by omega)) (pa_cons (pv 0) (pa_cons (pe_callB call_len_seq (by rfl) m_len PySem.boot_len (pa_cons (pv 4) pa_nil)) pa_nil))) (fun _ _ => rfl)))
    (pss_cons (ps_setLc (i := 6) (own := [("_law_k", 7)]) (tt := tYes) rfl sc__law_grown.nd rfl rfl (sw_true rfl rfl rfl (by decide +kernel)) (pi_range1 (by rfl) m_range (pa_cons pe_int pa_nil)) (blkOk_by (N := n__law_grown) (sc := defScope s__law_grown) (by decide +kernel)) (fun _ _ _ _ _ => pg_name (i := 7) sc__law_grown.nd rfl (Or.inl rfl)) (fun _ _ _ _ _ => pts_nil) (fun _ _ _ _ _ => (pe_cal C__law_grown (hr.mono (by omega)) (pa_cons (pv 0) (pa_cons (pv 1) (pa_cons (pv 2) (pa_cons (pe_op op_sub (pv 3) pe_int) pa_nil)))))))
    (pss_one (ps_ret (pe_tup (pa_cons (pv 5) (pa_cons (pe_ix ix_list (pv 6) pe_int (fun _ _ => rfl)) (pa_cons (pe_ix ix_list (pv 6) pe_int (fun _ _ => rfl)) (pa_cons (pe_ix ix_list (pv 6) pe_int (fun _ _ => rfl)) pa_nil))))))))))), ?_⟩
      dsimp only [tSeq, tIfS]
      refine st_test (fun b H' => SameBut src H H' ∧ Src H' src ∧ (b = false → m ≠ 0)) ?_ ?_
      · intro Z' hZ'
        walk_at "rd"
        refine ite2 (fun c => ?_) (fun c0 => ?_)
        · exact hZ' _ _ ⟨fun _ _ _ h => h, hA, fun h => (nomatch h)⟩
        · have m0 := int_f c0
          walk_at "rd"
          refine draw_of hA ⟨by decide, by decide⟩ fun x H3 _ _ b3 hA3 => ?_
          walk_at "rd"
          exact hZ' _ _ ⟨b3, hA3, fun _ => by omega⟩
      · rintro b H3 ⟨b3, hA3, ff⟩
        have hna3 := sqt_but hA b3 hna
        cases b with
        | true =>
          walk_at "rd"
          show spLeaf _ _ _ _
          unfold spLeaf
          exact ⟨src, n, rfl, hA3, nn, fun j H7 b7 hA7 => q (.int j) (.leaf j) H7 (b3.trans b7) hA7 (.int _) (Nat.zero_le _)⟩
        | false =>
          have m0 := ff rfl
          obtain ⟨k, rfl⟩ : ∃ j, k = j + 1 := ⟨k - 1, by omega⟩
          walk_at "rd"
          tm_at "ls l1"
          tm_at "al l2"
          have sl := sl1.trans sl2
          refine ⟨l1, l2, _, _, rfl, rfl, sl2 _ _ hl1, hl2, sz (by rw [List.length_map]; show ns.length + 1 ≤ 100000; omega), fun M nM => ?_⟩
          have eM : ns.map V.str ++ [V.str (Str.ofString "zz")] = (ns ++ [Str.ofString "zz"]).map V.str := by
            rw [List.map_append]
            rfl
          rw [eM]
          have s3 := same_new nM (o := .lst ((ns ++ [Str.ofString "zz"]).map V.str))
          have hM := upd_same (H := Hl2) (a := M) (o := .lst ((ns ++ [Str.ofString "zz"]).map V.str))
          generalize upd Hl2 M (.lst ((ns ++ [Str.ofString "zz"]).map V.str)) = H4 at s3 hM ⊢
          have s34 := sl.trans s3
          have hA4 := src_same hA3 s34
          have nMs : M ≠ src := (src_ne hA3 (sl.free nM)).symm
          generalize hms : ns ++ [Str.ofString "zz"] = marks at hM
          have mlen : marks.length = ns.length + 1 := by rw [← hms, List.length_append]; rfl
          walk_at "rd"
          refine ⟨_, _, rfl, .inl (sq hM), ?_⟩
          rw [List.length_map]
          walk_at "rd"
          refine draw_of hA4 ⟨by omega, by omega⟩ fun i H5 i0 i1 b5 hA5 => ?_
          obtain ⟨j, rfl⟩ : ∃ j : Nat, i = (j : Int) := ⟨i.toNat, by omega⟩
          have lj : j < marks.length := by omega
          have ej := List.getElem?_eq_getElem lj
          generalize marks[j] = mk2 at ej
          refine ⟨_, _, _, _, rfl, rfl, sq (b5 _ _ nMs hM), Go.at_mapV ej, ?_⟩
          have b35 : SameBut src H3 H5 := (Bx.Same.but s34).trans b5
          have b05 := b3.trans b35
          have hna5 := sqt_but hA3 b35 hna3
          walk_at "rd"
          refine ⟨by decide, by decide, fun D nD => ?_⟩
          have nDs : D ≠ src := (src_ne hA5 nD).symm
          refine lc_it walk_range (fun i H' => SameBut src H5 H' ∧ Src H' src ∧ ∃ (us' : List V) (trs : List Tr), H' D = some (.lst us') ∧ DpAll K H' us' (trs.map trD) ∧ trs.length = i ∧ ∀ tr ∈ trs, dep tr + 1 ≤ m) ⟨Bx.Same.but (same_new nD), src_upd hA5 nDs.symm, [], [], upd_same, .nil, rfl, fun tr h => (nomatch h)⟩ (fun _ _ _ _ => trivial) ?_ ?_
          · rintro i x H6a H6 hi ⟨b6, hA6, us', trs, hL, dL, tl, tR⟩ ⟨rfl, rfl⟩
            have hi3 : i < 3 := hi
            refine ⟨rfl, ?_⟩
            walk_at "rd"
            refine ⟨src, na, ns, n, m - 1, (by show [V.ref src, V.ref na, V.int (n : Int), V.int ((m : Int) - 1)] = _; rw [show ((m : Int) - 1) = ((m - 1 : Nat) : Int) by omega]), hA6, sqt_but hA5 b6 hna5, nl, nn, by omega, fun v tr H7 b7 hA7 dv dl => ?_⟩
            have hL7 := b7 _ _ nDs hL
            have ul : us'.length < 3 := by rw [da_len dL, List.length_map]; omega
            refine ⟨us', hL7, szl (by omega), but_at nD (b6.trans b7), src_upd hA7 nDs.symm, us' ++ [v], trs ++ [tr], upd_same, ?_, by rw [List.length_append, tl]; rfl, fun t ht => ?_⟩
            · rw [List.map_append]
              exact Go.da_put hL7 (Go.tupAll_map tup_tr _) (tup_tr tr) (Go.daB hA6 b7 (Go.tupAll_map tup_tr _) dL) dv
            · rcases List.mem_append.mp ht with h | h
              · exact tR t h
              · rw [List.mem_singleton.mp h]
                omega
          · rintro H6 ⟨b6, hA6, us', trs, hL, dL, tl, tR⟩
            have tl3 : trs.length = 3 := tl
            obtain ⟨a, b, c, rfl⟩ : ∃ a b c, trs = [a, b, c] := by
              match trs, tl3 with
              | [a, b, c], _ => exact ⟨a, b, c, rfl⟩
            obtain ⟨va, vb, vc, rfl, da, db, dc⟩ : ∃ va vb vc, us' = [va, vb, vc] ∧ Dp K H6 va (trD a) ∧ Dp K H6 vb (trD b) ∧ Dp K H6 vc (trD c) := by
              cases dL with
              | cons h1 t1 =>
                cases t1 with
                | cons h2 t2 =>
                  cases t2 with
                  | cons h3 t3 =>
                    cases t3
                    exact ⟨_, _, _, rfl, h1, h2, h3⟩
            walk_at "rd"
            refine ⟨_, _, _, _, rfl, rfl, sq hL, atI_nat (j := 0) rfl, ?_⟩
            walk_at "rd"
            refine ⟨_, _, _, _, rfl, rfl, sq hL, atI_nat (j := 1) rfl, ?_⟩
            walk_at "rd"
            refine ⟨_, _, _, _, rfl, rfl, sq hL, atI_nat (j := 2) rfl, ?_⟩
            walk_at "rd"
            tm_at "al R"
            have ra := tR a (by simp)
            have rb := tR b (by simp)
            have rc := tR c (by simp)
            refine q (.ref R) (.node mk2 a b c) HR (b05.trans (b6.trans (Bx.Same.but sR))) (src_same hA6 sR) (.tup (sqt hR) (.cons (.str mk2) (.cons (dp_same sR da) (.cons (dp_same sR db) (.cons (dp_same sR dc) .nil))))) ?_
            show 1 + max (dep a) (max (dep b) (dep c)) ≤ m
            omega
end
end K21
namespace K21
open Go (tupD tupAll Tk tk_same Tk.trans tk_lst dp_tk da_tk All2)
open PySem PySem.Spec PyProof.Rows L2 Bx TL Dx Zx Ow Sup NdefX Px
local macro_rules | `(tactic| walk_at "rd") => `(tactic| repeat (first | refine ⟨rfl, ?_⟩ | refine ⟨_, rfl, ?_⟩ | refine ⟨_, _, rfl, rfl, ?_⟩ | refine ⟨⟨_, rfl⟩, ?_⟩))
local macro_rules
  | `(tactic| tm_at $s:str) => do
    let id (x : String) := Lean.mkIdent (Lean.Name.mkSimple x)
    match s.getString.splitOn " " with
    | ["rd"] => `(tactic| walk_at "rd")
    | ["sz"] => `(tactic| first | exact sz (by decide) | exact szl (by decide) | exact sz (by show _ ≤ 100000; decide) | ((first | refine sz ?_ | refine szl ?_); (try simp only [List.length_map, List.length_append, List.length_cons, List.length_nil, List.length_take, List.length_drop]); omega) | fail "sz: no bound")
    | ["gn", p, h] => `(tactic| (generalize hu : upd _ $(id p) _ = $(id ("H" ++ p)); obtain ⟨$(id ("s" ++ p)), $(id h)⟩ := Go.al $(id ("n" ++ p)) hu; clear hu))
    | ["al", p] => `(tactic| (refine ⟨by tm_at "sz", fun $(id p) $(id ("n" ++ p)) => ?_⟩; generalize hu : upd _ $(id p) _ = $(id ("H" ++ p)); obtain ⟨$(id ("s" ++ p)), $(id ("h" ++ p))⟩ := Go.al $(id ("n" ++ p)) hu; clear hu; tm_at "rd"))
    | ["al0", p] => `(tactic| (refine ⟨by tm_at "sz", fun $(id p) $(id ("n" ++ p)) => ?_⟩; generalize hu : upd _ $(id p) _ = $(id ("H" ++ p)); obtain ⟨$(id ("s" ++ p)), $(id ("h" ++ p))⟩ := Go.al $(id ("n" ++ p)) hu; clear hu; tm_at "rd"))
    | ["new", p] => `(tactic| (refine fun $(id p) $(id ("n" ++ p)) => ?_; generalize hu : upd _ $(id p) _ = $(id ("H" ++ p)); obtain ⟨$(id ("s" ++ p)), $(id ("h" ++ p))⟩ := Go.al $(id ("n" ++ p)) hu; clear hu; tm_at "rd"))
    | ["new0", p] => `(tactic| (refine fun $(id p) $(id ("n" ++ p)) => ?_; generalize hu : upd _ $(id p) _ = $(id ("H" ++ p)); obtain ⟨$(id ("s" ++ p)), $(id ("h" ++ p))⟩ := Go.al $(id ("n" ++ p)) hu; clear hu; tm_at "rd"))
    | ["up"] => `(tactic| first
        | assumption | exact sq (by assumption) | exact sqt (by assumption) | exact PlT.sq (by assumption)
        | (refine' Bx.Same.tup (by assumption) ?hh; (case hh => tm_at "up")) | (refine' Same.seq (by assumption) ?hh; (case hh => tm_at "up")) | (refine' Go.get (by assumption) ?hh; (case hh => tm_at "up")) | (refine' dpAll_same (by assumption) ?hh; (case hh => tm_at "up")) | (refine' dp_same (by assumption) ?hh; (case hh => tm_at "up")) | (refine' PlT.same (by assumption) ?hh; (case hh => tm_at "up")) | (refine' Go.srcS (by assumption) ?hh; (case hh => tm_at "up"))
        | (refine' Go.tupB (s := _) (by assumption) (by assumption) ?hh; (case hh => tm_at "up")) | (refine' Go.dkB (s := _) (by assumption) (by assumption) ?hh; (case hh => tm_at "up")) | (refine' Go.insB (s := _) (by assumption) (by assumption) ?hh; (case hh => tm_at "up")) | (refine' Go.pltB (s := _) (by assumption) (by assumption) ?hh; (case hh => tm_at "up"))
        | (refine' Go.getB (by assumption) (by first | assumption | exact Ne.symm (by assumption)) ?hh; (case hh => tm_at "up"))
        | (refine' sq ?hh; (case hh => tm_at "raw")) | (refine' sqt ?hh; (case hh => tm_at "raw")) | (refine' PlT.sq ?hh; (case hh => tm_at "raw")) | fail "up: no fact")
    | ["raw"] => `(tactic| first
        | assumption | (refine' Go.get (by assumption) ?hh; (case hh => tm_at "raw")) | (refine' PlT.same (by assumption) ?hh; (case hh => tm_at "raw")) | (refine' Go.pltB (s := _) (by assumption) (by assumption) ?hh; (case hh => tm_at "raw")) | (refine' Go.getB (by assumption) (by first | assumption | exact Ne.symm (by assumption)) ?hh; (case hh => tm_at "raw")) | fail "raw: no fact")
    | ["sq"] => `(tactic| first | exact .inl (by tm_at "up") | exact .inr (by tm_at "up") | fail "sq: no fact")
    | ["ix", j] => `(tactic| (refine ⟨_, _, _, _, rfl, rfl, by tm_at "up", by exact atI_nat (j := $(Lean.Syntax.mkNumLit j)) rfl, ?_⟩; tm_at "rd"))
    | ["ixh", h] => `(tactic| (refine ⟨_, _, _, _, rfl, rfl, by tm_at "up", by first | exact Go.at_mapV $(id h) | exact Go.at_mapZ $(id h) | exact atI_nat $(id h) | exact Go.at_nat0 $(id h), ?_⟩; tm_at "rd"))
    | ["len"] => `(tactic| (refine ⟨_, _, rfl, by tm_at "sq", ?_⟩; (try rw [List.length_map]); tm_at "rd"))
    | ["tp", p] => `(tactic| (refine ⟨_, _, rfl, .inl ⟨by tm_at "up", fun $(id p) $(id ("n" ++ p)) => ?_⟩⟩; generalize hu : upd _ $(id p) _ = $(id ("H" ++ p)); obtain ⟨$(id ("s" ++ p)), $(id ("h" ++ p))⟩ := Go.al $(id ("n" ++ p)) hu; clear hu; tm_at "rd"))
    | ["tp0", p] => `(tactic| (refine ⟨_, _, rfl, .inl ⟨by tm_at "up", fun $(id p) $(id ("n" ++ p)) => ?_⟩⟩; generalize hu : upd _ $(id p) _ = $(id ("H" ++ p)); obtain ⟨$(id ("s" ++ p)), $(id ("h" ++ p))⟩ := Go.al $(id ("n" ++ p)) hu; clear hu; tm_at "rd"))
    | ["ls", p] => `(tactic| (refine ⟨_, _, rfl, by tm_at "sq", fun $(id p) $(id ("n" ++ p)) => ?_⟩; generalize hu : upd _ $(id p) _ = $(id ("H" ++ p)); obtain ⟨$(id ("s" ++ p)), $(id ("h" ++ p))⟩ := Go.al $(id ("n" ++ p)) hu; clear hu; tm_at "rd"))
    | ["ls0", p] => `(tactic| (refine ⟨_, _, rfl, by tm_at "sq", fun $(id p) $(id ("n" ++ p)) => ?_⟩; generalize hu : upd _ $(id p) _ = $(id ("H" ++ p)); obtain ⟨$(id ("s" ++ p)), $(id ("h" ++ p))⟩ := Go.al $(id ("n" ++ p)) hu; clear hu; tm_at "rd"))
    | ["tf", p] => `(tactic| (refine ⟨_, _, rfl, by tm_at "up", fun $(id p) $(id ("o" ++ p)) $(id ("n" ++ p)) $(id ("d" ++ p)) => ?_⟩; generalize hu : upd _ $(id p) _ = $(id ("H" ++ p)); obtain ⟨$(id ("s" ++ p)), $(id ("h" ++ p))⟩ := Go.alF $(id ("n" ++ p)) $(id ("d" ++ p)) hu; clear hu; tm_at "rd"))
    | ["alF", p] => `(tactic| (refine ⟨by tm_at "sz", fun $(id p) $(id ("o" ++ p)) $(id ("n" ++ p)) $(id ("d" ++ p)) => ?_⟩; generalize hu : upd _ $(id p) _ = $(id ("H" ++ p)); obtain ⟨$(id ("s" ++ p)), $(id ("h" ++ p))⟩ := Go.alF $(id ("n" ++ p)) $(id ("d" ++ p)) hu; clear hu; tm_at "rd"))
    | ["bare", k] => `(tactic| (refine fun $(id k) $(id ("d" ++ k)) $(id ("n" ++ k)) $(id ("nd" ++ k)) $(id ("ne" ++ k)) => ?_; generalize hu : upd (upd _ $(id ("d" ++ k)) _) $(id k) _ = $(id ("H" ++ k)); obtain ⟨$(id ("s" ++ k)), $(id ("h" ++ k))⟩ := Go.bare $(id ("n" ++ k)) $(id ("nd" ++ k)) $(id ("ne" ++ k)) hu; clear hu; walk_at "rd"))
    | ["me"] => `(tactic| (refine ⟨_, _, _, rfl, by tm_at "up", rfl, ?_⟩; walk_at "rd"))
    | ["star"] => `(tactic| ((first | refine ⟨_, _, rfl, .inl (by tm_at "up"), ?_⟩ | refine ⟨_, _, rfl, .inr (by tm_at "up"), ?_⟩ | fail "star"); walk_at "rd"))
    | ["ap0"] => `(tactic| (refine ⟨.inl ⟨rfl, _, by tm_at "up"⟩, ?_⟩; tm_at "rd"))
    | ["ap"] => `(tactic| refine ⟨_, _, _, rfl, rfl, by tm_at "up", by tm_at "sz", ?_⟩)
    | ["un", n] => match n with
      | "2" => `(tactic| (refine ⟨_, _, rfl, by tm_at "up", rfl, _, _, rfl, _, _, rfl, rfl, ?_⟩; tm_at "rd"))
      | _ => `(tactic| (refine ⟨_, _, rfl, by tm_at "up", rfl, _, _, rfl, _, _, rfl, _, _, rfl, rfl, ?_⟩; tm_at "rd"))
    | _ => Lean.Macro.throwUnsupported
theorem fit_congr {t : Tab} {f g : Str → Int} (h : ∀ z ∈ t.1, f z = g z) : fitT f t = fitT g t := by
  unfold fitT
  rw [List.map_congr_left h]
theorem found_sol {ns : List Str} {ts : List Tab} {q : Tab} {l : As} (ok : ThOk ns ts q) (f : FoundOk ns ts q l) : ns.map (fun z => (lk l z).getD 0) ∈ solR ns ts := by
  refine List.mem_filter.mpr ⟨(rowsN_mem _ _).mpr ⟨List.length_map _, fun x hx => ?_⟩, ?_⟩
  · obtain ⟨z, _, rfl⟩ := List.mem_map.mp hx
    cases e : lk l z with
    | none => exact .inl rfl
    | some v =>
      unfold lk at e
      obtain ⟨p, hp, ep⟩ := Option.map_eq_some_iff.mp e
      rw [← ep]
      exact f.dig p (List.mem_of_find?_eq_some hp)
  · rw [← f.fit]
    have all : ∀ t ∈ ts, fitT (val ns (ns.map fun z => (lk l z).getD 0)) t = fitT (fun z => (lk l z).getD 0) t := fun t ht => fit_congr fun z hz => val_map ((ok.s.tab t ht).2.2 z hz)
    rw [Bool.eq_iff_iff, List.all_eq_true, List.all_eq_true]
    exact ⟨fun h t ht => by rw [← all t ht]; exact h t ht, fun h t ht => by rw [all t ht]; exact h t ht⟩
/-- a found assignment breaks, so some solution does -/
theorem found_brk {ns : List Str} {ts : List Tab} {q : Tab} {l : As} (ok : ThOk ns ts q) (f : FoundOk ns ts q l) : ∃ r ∈ solR ns ts, fitT (val ns r) q = false :=
  ⟨_, found_sol ok f, by rw [fit_congr fun z hz => val_map (ok.s.que z hz)]; exact f.brk⟩
theorem tree_brk {ns : List Str} {ts : List Tab} {q : Tab} {tr : Tr} (ok : ThOk ns ts q) (h : Rt ns ts q tr g0 = true) : ∀ r ∈ solR ns ts, fitT (val ns r) q = true := fun r hr => by
  obtain ⟨h1, h2⟩ := List.mem_filter.mp hr
  have nd := ok.s.nd
  rw [List.nodup_append] at nd
  exact rt_sound nd.2.1 h1 h2 tr g0 (fun z v e => nomatch e) h
theorem eqk_found {ns : List Str} {ts : List Tab} {q : Tab} {l : As} (nd : ns.Nodup) (f : FoundOk ns ts q l) : Dl.eqK (asV (ns.zip (ns.map fun z => (lk l z).getD 0))) (asV l) = true := by
  unfold Dl.eqK
  rw [Bool.and_eq_true_iff]
  constructor
  · rw [beq_iff_eq]
    unfold asV
    rw [List.length_map, List.length_map, List.length_zip, List.length_map, Nat.min_self, as_len nd f.nd f.mem]
  · refine List.all_eq_true.mpr fun p hp => decide_eq_true ?_
    obtain ⟨x, hx, rfl⟩ := List.mem_map.mp hp
    have e : ∀ {ms : List Str}, (∀ z ∈ ms, z ∈ ns) → ∀ y ∈ ms.zip (ms.map fun z => (lk l z).getD 0), y.1 ∈ ns ∧ y.2 = (lk l y.1).getD 0 := by
      intro ms
      induction ms with
      | nil => intro _ y hy; cases hy
      | cons m ms ih =>
        intro sub y hy
        rcases List.mem_cons.mp hy with h | h
        · rw [h]
          exact ⟨sub m (List.mem_cons_self ..), rfl⟩
        · exact ih (fun z hz => sub z (List.mem_cons_of_mem _ hz)) y h
    obtain ⟨z1, z2⟩ := e (fun z hz => hz) x hx
    show valV (asV l) (.inr x.1) = some (.int x.2)
    rw [val_as, z2]
    have s : (lk l x.1).isSome = true := by
      rw [← Option.not_isNone, Bool.not_eq_true', ← Bool.not_eq_true]
      intro h
      exact lk_none.mp (Option.isNone_iff_eq_none.mp h) ((f.mem _).mpr z1)
    obtain ⟨v, ev⟩ := Option.isSome_iff_exists.mp s
    rw [ev]
    rfl
theorem ints_as {l : As} (nd : (l.map (·.1)).Nodup) : Dl.IntsK (asV l) := by
  refine ⟨fun p hp => ?_, ?_⟩
  · obtain ⟨x, _, rfl⟩ := List.mem_map.mp hp
    exact ⟨_, rfl⟩
  · have e : (asV l).map (·.1) = (l.map (·.1)).map fun z => (.inr z : Key) := by
      unfold asV
      rw [List.map_map, List.map_map]
      rfl
    rw [e]
    exact List.pairwise_map.mpr (nd.imp fun h e => h (Sum.inr.inj e))
/-- the list of dicts as addresses with their pairs -/
theorem sol_pairs {H : Hp} {ns : List Str} {d0 : Addr} (nd : ns.Nodup) : ∀ {us : List V} {rs : List Row}, All2 (fun v r => ∃ d, v = .ref d ∧ H d = some (.dK (asV (ns.zip r))) ∧ d ≠ d0) us rs → (∀ r ∈ rs, r.length = ns.length) → ∃ L : List (Addr × List (Key × V)), us = L.map (fun p => V.ref p.1) ∧ (∀ p ∈ L, H p.1 = some (.dK p.2) ∧ p.1 ≠ d0 ∧ Dl.IntsK p.2) ∧ ∀ r ∈ rs, ∃ p ∈ L, p.2 = asV (ns.zip r)
  | _, _, .nil, _ => ⟨[], rfl, (fun p h => nomatch h), (fun r h => nomatch h)⟩
  | _, _, .cons h t, rl => by
    obtain ⟨d, rfl, hd, hne⟩ := h
    obtain ⟨L, e1, e2, e3⟩ := sol_pairs nd t fun r hr => rl r (List.mem_cons_of_mem _ hr)
    rename_i r0 vs0 rs0
    refine ⟨(d, asV (ns.zip r0)) :: L, by rw [e1]; rfl, fun p hp => ?_, fun r hr => ?_⟩
    · rcases List.mem_cons.mp hp with h | h
      · rw [h]
        exact ⟨hd, hne, ints_as (by rw [zip_keys (rl _ (List.mem_cons_self ..))]; exact nd)⟩
      · exact e2 p h
    · rcases List.mem_cons.mp hr with h | h
      · rw [h]
        exact ⟨_, List.mem_cons_self .., rfl⟩
      · obtain ⟨p, h1, h2⟩ := e3 r h
        exact ⟨p, List.mem_cons_of_mem _ h1, h2⟩
section
variable {P : Program} {w : World} {K : PySem.W.Frag} {mg : Str → Option Value} {base : Heap}
@[irreducible] def spBreaks (K : PySem.W.Frag) : Sp := fun vs H Q _ => ∃ (d cp a : Addr) (ns : List Str) (ts : List Tab) (q : Tab) (l : As) (us : List V), vs = [.ref d, .ref cp, .ref a] ∧ H d = some (.dK (asV l)) ∧ TabAt K H cp q ∧ H a = some (.lst us) ∧ All2 (fun v r => ∃ e, v = .ref e ∧ H e = some (.dK (asV (ns.zip r))) ∧ e ≠ d) us (solR ns ts) ∧ ThOk ns ts q ∧ FoundOk ns ts q l ∧ ∀ H', Same H H' → Q (.bl true) H'
set_option maxHeartbeats 2000000 in
theorem ok_breaks {f : Addr} {fd : FuncData} (F : Fun K "_law_breaks" "_law_breaks" s__law_breaks f fd) (m_len : mg "len" = none) (m_isinstance : mg "isinstance" = none) (m_dict : mg "dict" = none) (C__law_is_int : Cal P w K mg base "_law_is_int" 1 ["_law_value"] (spIsInt K)) (C__law_fits : Cal P w K mg base "_law_fits" 1 ["_law_table_here", "_law_values_here"] (spFits K)) : FnOk P w K mg base CX0 2 f fd ["_law_found", "_law_question_here", "_law_solutions_here"] (spBreaks K) := by
  refine F.ok sc__law_breaks (fun vs H Q E h => ?_) (fun cdv A outer s H vs Q E hr h => ?_)
  · unfold spBreaks at h
    obtain ⟨d, cp, a, ns, ts, q, l, us, rfl, _⟩ := h
    rfl
  · unfold spBreaks at h
    obtain ⟨d, cp, a, ns, ts, q, l, us, rfl, hd, hq, ha0, hus, ok, fo, q0⟩ := h
    have hu := hu_of hr
    have nd : ns.Nodup := by
      have := ok.s.nd
      rw [List.nodup_append] at this
      exact this.2.1
    obtain ⟨L, rfl, hL, hr1⟩ := sol_pairs nd hus fun r hr => rowsN_len _ r (List.mem_filter.mp hr).1
    have ll : l.length ≤ 5 := by
      rw [as_len nd fo.nd fo.mem]
      exact ok.l5
    refine ⟨_, (pss_cons (ps_if (PW.pt (pw_or (pt_not (pt_val (pe_callB (id := "isinstance") call_isi (by rfl) m_isinstance (by decide +kernel) (pa_cons (pv 0) (pa_cons (pe_bltn (v := .ty "dict") (by rfl) m_dict (by decide +kernel) rfl) pa_nil))))) (pw_or1 (pt_cmpR (Dl.op_notInDk (Nat.lt_of_le_of_lt (Nat.add_le_add_left (show 2 ≤ 65 by decide) _) (room hr))) (pv 0) (pv 2) (by rfl)))))
      (pss_one (ps_ret pe_bl))
      pss_nil)
    (pss_cons (ps_if (pt_cmpR op_gt (pe_callB call_len_seq (by rfl) m_len PySem.boot_len (pa_cons (pe_lock (pe_lc (own := [("_law_name", 3)]) rfl sc__law_breaks.nd (pi_keys (pv 0)) (blkOk_by (N := n__law_breaks) (sc := defScope s__law_breaks) (by decide +kernel)) (fun _ _ _ _ _ => pg_name (i := 3) sc__law_breaks.nd rfl (Or.inl rfl)) (fun _ _ _ _ _ => pts_one (pt_not (pt_val (pe_cal C__law_is_int (hr.mono (by decide)) (pa_cons (pe_dget hu (pv 0) (pv 3) (fun _ _ => rfl)) pa_nil))))) (fun _ _ _ _ _ => (pv 3)))) pa_nil)) pe_int (nomark _))
      (pss_one (ps_ret pe_bl))
      pss_nil)
    (pss_one (ps_ret (pe_not (pe_cal C__law_fits (hr.mono (by decide)) (pa_cons (pv 1) (pa_cons (pv 0) pa_nil)))))))), ?_⟩
    walk_at "rd"
    refine ⟨_, _, _, _, true, rfl, .ty "dict", .base (.dK hd), kit_ty (by decide +kernel), ?_⟩
    walk_at "rd"
    refine ⟨d, a, asV l, L, rfl, rfl, hd, sq ha0, hL, ints_as fo.nd, ?_⟩
    have e1 : (L.any fun p => Dl.eqK p.2 (asV l)) = true := by
      obtain ⟨p, hp, ep⟩ := hr1 _ (found_sol ok fo)
      exact List.any_eq_true.mpr ⟨p, hp, by rw [ep]; exact eqk_found nd fo⟩
    rw [e1]
    walk_at "rd"
    refine ⟨d, .dK (asV l), hd, trivial, fun od => ?_⟩
    generalize hlk : upd H d (.frz od (.dK (asV l))) = HL
    have hdL : HL d = some (.frz od (.dK (asV l))) := by rw [← hlk]; exact upd_same
    have oth : ∀ b, b ≠ d → HL b = H b := fun b hb => by rw [← hlk]; exact upd_ne hb
    clear hlk
    walk_at "rd"
    refine ⟨d, od, rfl, .inl ⟨asV l, hdL, fun D nD => ?_⟩⟩
    have al : (asV l).length = l.length := List.length_map _
    refine lc_it walk_keys (fun i H' => Same HL H' ∧ H' D = some (.lst [])) ⟨same_new nD, upd_same⟩ (fun i H' _ h => h.1 _ _ hdL) ?_ ?_
    · rintro i x H2a H2 hi ⟨s2, hD⟩ ⟨rfl, kk, yy, hk, rfl⟩
      have hk2 : (l[i]?).map (fun p => ((.inr p.1 : Key), V.int p.2)) = some (kk, yy) := by
        rw [← List.getElem?_map]
        exact hk
      obtain ⟨e, he, ee⟩ := Option.map_eq_some_iff.mp hk2
      cases ee
      refine ⟨rfl, ?_⟩
      walk_at "rd"
      refine ⟨d, .int e.2, rfl, .inl ⟨asV l, .inr e.1, .inr ⟨od, s2 _ _ hdL⟩, rfl, ?_⟩, ?_⟩
      · rw [val_at_as fo.nd he]
      walk_at "rd"
      show spIsInt K _ _ _ _
      unfold spIsInt
      refine ⟨_, .leaf e.2, rfl, .int _, ?_⟩
      walk_at "rd"
      exact ⟨s2, hD⟩
    · rintro H2 ⟨s2, hD⟩
      refine ⟨s2 _ _ hdL, ?_⟩
      have dD : d ≠ D := fun e => by rw [← e, hdL] at nD; cases nD
      have s3 : Same H (upd H2 d (.dK (asV l))) := fun b o hb => by
        by_cases e : b = d
        · rw [e, upd_same, ← hd, ← e]
          exact hb
        · rw [upd_ne e]
          exact s2 _ _ (by rw [oth b e]; exact hb)
      have hD3 : (upd H2 d (.dK (asV l))) D = some (.lst []) := by rw [upd_ne (Ne.symm dD)]; exact hD
      generalize upd H2 d (.dK (asV l)) = H3 at s3 hD3 ⊢
      walk_at "rd"
      tm_at "len"
      show spFits K _ _ _ _
      unfold spFits
      refine ⟨cp, d, q, fun z => (lk l z).getD 0, ns, rfl, hq.same s3, ⟨asV l, s3 _ _ hd, fun z hz => ?_⟩, ⟨by have := ok.ql; omega, ok.s.que⟩, fun H4 s4 => ?_⟩
      · rw [val_as]
        have sm : (lk l z).isSome = true := by
          rw [← Option.not_isNone, Bool.not_eq_true', ← Bool.not_eq_true]
          intro h
          exact lk_none.mp (Option.isNone_iff_eq_none.mp h) ((fo.mem _).mpr hz)
        obtain ⟨v, ev⟩ := Option.isSome_iff_exists.mp sm
        show (lk l z).map V.int = some (V.int ((lk l z).getD 0))
        rw [ev]
        rfl
      · rw [fo.brk]
        walk_at "rd"
        exact q0 H4 (s3.trans s4)
end
end K21
namespace K21
open Go (tupD tupAll Tk tk_same Tk.trans tk_lst dp_tk da_tk All2)
open PySem PySem.Spec PyProof.Rows L2 Bx TL Dx Zx Ow Sup NdefX Px
local macro_rules | `(tactic| walk_at "rd") => `(tactic| repeat (first | refine ⟨rfl, ?_⟩ | refine ⟨_, rfl, ?_⟩ | refine ⟨_, _, rfl, rfl, ?_⟩ | refine ⟨⟨_, rfl⟩, ?_⟩))
local macro_rules
  | `(tactic| tm_at $s:str) => do
    let id (x : String) := Lean.mkIdent (Lean.Name.mkSimple x)
    match s.getString.splitOn " " with
    | ["rd"] => `(tactic| walk_at "rd")
    | ["sz"] => `(tactic| first | exact sz (by decide) | exact szl (by decide) | exact sz (by show _ ≤ 100000; decide) | ((first | refine sz ?_ | refine szl ?_); (try simp only [List.length_map, List.length_append, List.length_cons, List.length_nil, List.length_take, List.length_drop]); omega) | fail "sz: no bound")
    | ["gn", p, h] => `(tactic| (generalize hu : upd _ $(id p) _ = $(id ("H" ++ p)); obtain ⟨$(id ("s" ++ p)), $(id h)⟩ := Go.al $(id ("n" ++ p)) hu; clear hu))
    | ["al", p] => `(tactic| (refine ⟨by tm_at "sz", fun $(id p) $(id ("n" ++ p)) => ?_⟩; generalize hu : upd _ $(id p) _ = $(id ("H" ++ p)); obtain ⟨$(id ("s" ++ p)), $(id ("h" ++ p))⟩ := Go.al $(id ("n" ++ p)) hu; clear hu; tm_at "rd"))
    | ["al0", p] => `(tactic| (refine ⟨by tm_at "sz", fun $(id p) $(id ("n" ++ p)) => ?_⟩; generalize hu : upd _ $(id p) _ = $(id ("H" ++ p)); obtain ⟨$(id ("s" ++ p)), $(id ("h" ++ p))⟩ := Go.al $(id ("n" ++ p)) hu; clear hu; tm_at "rd"))
    | ["new", p] => `(tactic| (refine fun $(id p) $(id ("n" ++ p)) => ?_; generalize hu : upd _ $(id p) _ = $(id ("H" ++ p)); obtain ⟨$(id ("s" ++ p)), $(id ("h" ++ p))⟩ := Go.al $(id ("n" ++ p)) hu; clear hu; tm_at "rd"))
    | ["new0", p] => `(tactic| (refine fun $(id p) $(id ("n" ++ p)) => ?_; generalize hu : upd _ $(id p) _ = $(id ("H" ++ p)); obtain ⟨$(id ("s" ++ p)), $(id ("h" ++ p))⟩ := Go.al $(id ("n" ++ p)) hu; clear hu; tm_at "rd"))
    | ["up"] => `(tactic| first
        | assumption | exact sq (by assumption) | exact sqt (by assumption) | exact PlT.sq (by assumption)
        | (refine' Bx.Same.tup (by assumption) ?hh; (case hh => tm_at "up")) | (refine' Same.seq (by assumption) ?hh; (case hh => tm_at "up")) | (refine' Go.get (by assumption) ?hh; (case hh => tm_at "up")) | (refine' dpAll_same (by assumption) ?hh; (case hh => tm_at "up")) | (refine' dp_same (by assumption) ?hh; (case hh => tm_at "up")) | (refine' PlT.same (by assumption) ?hh; (case hh => tm_at "up")) | (refine' Go.srcS (by assumption) ?hh; (case hh => tm_at "up"))
        | (refine' Go.tupB (s := _) (by assumption) (by assumption) ?hh; (case hh => tm_at "up")) | (refine' Go.dkB (s := _) (by assumption) (by assumption) ?hh; (case hh => tm_at "up")) | (refine' Go.insB (s := _) (by assumption) (by assumption) ?hh; (case hh => tm_at "up")) | (refine' Go.pltB (s := _) (by assumption) (by assumption) ?hh; (case hh => tm_at "up"))
        | (refine' Go.getB (by assumption) (by first | assumption | exact Ne.symm (by assumption)) ?hh; (case hh => tm_at "up"))
        | (refine' sq ?hh; (case hh => tm_at "raw")) | (refine' sqt ?hh; (case hh => tm_at "raw")) | (refine' PlT.sq ?hh; (case hh => tm_at "raw")) | fail "up: no fact")
    | ["raw"] => `(tactic| first
        | assumption | (refine' Go.get (by assumption) ?hh; (case hh => tm_at "raw")) | (refine' PlT.same (by assumption) ?hh; (case hh => tm_at "raw")) | (refine' Go.pltB (s := _) (by assumption) (by assumption) ?hh; (case hh => tm_at "raw")) | (refine' Go.getB (by assumption) (by first | assumption | exact Ne.symm (by assumption)) ?hh; (case hh => tm_at "raw")) | fail "raw: no fact")
    | ["sq"] => `(tactic| first | exact .inl (by tm_at "up") | exact .inr (by tm_at "up") | fail "sq: no fact")
    | ["ix", j] => `(tactic| (refine ⟨_, _, _, _, rfl, rfl, by tm_at "up", by exact atI_nat (j := $(Lean.Syntax.mkNumLit j)) rfl, ?_⟩; tm_at "rd"))
    | ["ixh", h] => `(tactic| (refine ⟨_, _, _, _, rfl, rfl, by tm_at "up", by first | exact Go.at_mapV $(id h) | exact Go.at_mapZ $(id h) | exact atI_nat $(id h) | exact Go.at_nat0 $(id h), ?_⟩; tm_at "rd"))
    | ["len"] => `(tactic| (refine ⟨_, _, rfl, by tm_at "sq", ?_⟩; (try rw [List.length_map]); tm_at "rd"))
    | ["tp", p] => `(tactic| (refine ⟨_, _, rfl, .inl ⟨by tm_at "up", fun $(id p) $(id ("n" ++ p)) => ?_⟩⟩; generalize hu : upd _ $(id p) _ = $(id ("H" ++ p)); obtain ⟨$(id ("s" ++ p)), $(id ("h" ++ p))⟩ := Go.al $(id ("n" ++ p)) hu; clear hu; tm_at "rd"))
    | ["tp0", p] => `(tactic| (refine ⟨_, _, rfl, .inl ⟨by tm_at "up", fun $(id p) $(id ("n" ++ p)) => ?_⟩⟩; generalize hu : upd _ $(id p) _ = $(id ("H" ++ p)); obtain ⟨$(id ("s" ++ p)), $(id ("h" ++ p))⟩ := Go.al $(id ("n" ++ p)) hu; clear hu; tm_at "rd"))
    | ["ls", p] => `(tactic| (refine ⟨_, _, rfl, by tm_at "sq", fun $(id p) $(id ("n" ++ p)) => ?_⟩; generalize hu : upd _ $(id p) _ = $(id ("H" ++ p)); obtain ⟨$(id ("s" ++ p)), $(id ("h" ++ p))⟩ := Go.al $(id ("n" ++ p)) hu; clear hu; tm_at "rd"))
    | ["ls0", p] => `(tactic| (refine ⟨_, _, rfl, by tm_at "sq", fun $(id p) $(id ("n" ++ p)) => ?_⟩; generalize hu : upd _ $(id p) _ = $(id ("H" ++ p)); obtain ⟨$(id ("s" ++ p)), $(id ("h" ++ p))⟩ := Go.al $(id ("n" ++ p)) hu; clear hu; tm_at "rd"))
    | ["tf", p] => `(tactic| (refine ⟨_, _, rfl, by tm_at "up", fun $(id p) $(id ("o" ++ p)) $(id ("n" ++ p)) $(id ("d" ++ p)) => ?_⟩; generalize hu : upd _ $(id p) _ = $(id ("H" ++ p)); obtain ⟨$(id ("s" ++ p)), $(id ("h" ++ p))⟩ := Go.alF $(id ("n" ++ p)) $(id ("d" ++ p)) hu; clear hu; tm_at "rd"))
    | ["alF", p] => `(tactic| (refine ⟨by tm_at "sz", fun $(id p) $(id ("o" ++ p)) $(id ("n" ++ p)) $(id ("d" ++ p)) => ?_⟩; generalize hu : upd _ $(id p) _ = $(id ("H" ++ p)); obtain ⟨$(id ("s" ++ p)), $(id ("h" ++ p))⟩ := Go.alF $(id ("n" ++ p)) $(id ("d" ++ p)) hu; clear hu; tm_at "rd"))
    | ["bare", k] => `(tactic| (refine fun $(id k) $(id ("d" ++ k)) $(id ("n" ++ k)) $(id ("nd" ++ k)) $(id ("ne" ++ k)) => ?_; generalize hu : upd (upd _ $(id ("d" ++ k)) _) $(id k) _ = $(id ("H" ++ k)); obtain ⟨$(id ("s" ++ k)), $(id ("h" ++ k))⟩ := Go.bare $(id ("n" ++ k)) $(id ("nd" ++ k)) $(id ("ne" ++ k)) hu; clear hu; walk_at "rd"))
    | ["me"] => `(tactic| (refine ⟨_, _, _, rfl, by tm_at "up", rfl, ?_⟩; walk_at "rd"))
    | ["star"] => `(tactic| ((first | refine ⟨_, _, rfl, .inl (by tm_at "up"), ?_⟩ | refine ⟨_, _, rfl, .inr (by tm_at "up"), ?_⟩ | fail "star"); walk_at "rd"))
    | ["ap0"] => `(tactic| (refine ⟨.inl ⟨rfl, _, by tm_at "up"⟩, ?_⟩; tm_at "rd"))
    | ["ap"] => `(tactic| refine ⟨_, _, _, rfl, rfl, by tm_at "up", by tm_at "sz", ?_⟩)
    | ["un", n] => match n with
      | "2" => `(tactic| (refine ⟨_, _, rfl, by tm_at "up", rfl, _, _, rfl, _, _, rfl, rfl, ?_⟩; tm_at "rd"))
      | _ => `(tactic| (refine ⟨_, _, rfl, by tm_at "up", rfl, _, _, rfl, _, _, rfl, _, _, rfl, rfl, ?_⟩; tm_at "rd"))
    | _ => Lean.Macro.throwUnsupported
def pool5 : List Str := ["a", "a.k", "b", "b1", "c"]
theorem pool5_nd : pool5.Nodup := by decide +kernel
theorem pool5_ok : ∀ z ∈ pool5, PyData.strOk z = true := by decide +kernel
section
variable {P : Program} {w : World} {K : PySem.W.Frag} {mg : Str → Option Value} {base : Heap}
def spLaw (K : PySem.W.Frag) : Sp := fun vs H Q _ => ∃ (a : Addr) (ns : List Int), vs = [.ref a] ∧ SqL K H a (ns.map V.int) ∧ ns.length ≤ 63 ∧ ∀ H', Q (.bl true) H'
set_option maxHeartbeats 8000000 in
theorem ok_law {C : Addr} {f : Addr} {fd : FuncData} (F : Fun K "law" "law" s_law f fd) (m_range : mg "range" = none) (m_tuple : mg "tuple" = none) (m_len : mg "len" = none) (m_isinstance : mg "isinstance" = none) (m_bool : mg "bool" = none) (B_Rows : Mk0.Bare K mg "Rows" C)
    (C__law_source : Cal P w K mg base "_law_source" 1 ["_law_script", "_law_k"] (spSource K)) (C__law_draw : CDraw P w K mg base) (C__law_some : Cal P w K mg base "_law_some" 2 ["_law_source_here", "_law_names", "_law_most"] (spSome K)) (C__law_table : Cal P w K mg base "_law_table" 3 ["_law_source_here", "_law_names"] (spTable K)) (C__law_solutions : Cal P w K mg base "_law_solutions" 2 ["_law_theory"] (spSol K)) (C__law_question : Cal P w K mg base "_law_question" 4 ["_law_source_here", "_law_theory", "_law_solutions_here"] (spQuest K)) (C__law_fits : Cal P w K mg base "_law_fits" 1 ["_law_table_here", "_law_values_here"] (spFits K))
    (M_certificate : MthC P w K mg base C "certificate" 9 ["self", "theory", "constraint"] (spCert K C)) (M_counterexample : MthC P w K mg base C "counterexample" 9 ["self", "theory", "constraint"] (spCtr K C)) (M_accepts : MthC P w K mg base C "accepts" 11 ["self", "theory", "constraint", "certificate"] (spAcc K C)) (C__law_made : Cal P w K mg base "_law_made" 7 ["_law_source_here", "_law_theory", "_law_order_here", "_law_decided"] (spMade K 6)) (C__law_order : Cal P w K mg base "_law_order" 2 ["_law_source_here", "_law_names"] (spOrder K))
    (C__law_breaks : Cal P w K mg base "_law_breaks" 2 ["_law_found", "_law_question_here", "_law_solutions_here"] (spBreaks K)) (C__law_is_tree : Cal P w K mg base "_law_is_tree" 7 ["_law_tree", "_law_depth"] (spIsTree K 6)) (C__law_rows_show : Cal P w K mg base "_law_rows_show" 9 ["_law_theory", "_law_constraint", "_law_tree", "_law_decided"] (spRowsShow K 8)) (C__law_changed : Cal P w K mg base "_law_changed" 9 ["_law_source_here", "_law_names", "_law_tree", "_law_count", "_law_depth"] (spChanged K 6)) (C__law_grown : Cal P w K mg base "_law_grown" 5 ["_law_source_here", "_law_names", "_law_count", "_law_depth"] (spGrown K 3)) : FnOk P w K mg base CX0 12 f fd ["_law_script"] (spLaw K) := by
  refine F.ok sc_law (fun vs H Q E h => ?_) (fun cdv A outer s H vs Q E hr h => ?_)
  · unfold spLaw at h
    obtain ⟨a, ns, rfl, _⟩ := h
    rfl
  · unfold spLaw at h
    obtain ⟨sa, sc, rfl, hs, hsl, q⟩ := h
    have hu := hu_of hr
    refine ⟨_, (pss_cons (ps_set (i := 1) sc_law.nd rfl (Or.inl rfl) (Mk0.pe_bare B_Rows))
    (pss_cons (ps_set (i := 2) sc_law.nd rfl (Or.inr rfl) (pe_cal C__law_source (hr.mono (by decide)) (pa_cons (pv 0) (pa_cons pe_int pa_nil))))
    (pss_cons (ps_set (i := 3) sc_law.nd rfl (Or.inr rfl) (pe_callTy (T := "tuple") call_tuple_of (by rfl) m_tuple (by decide +kernel) (pa_cons (pe_cal C__law_some (hr.mono (by decide)) (pa_cons (pv 2) (pa_cons (pe_lst (pa_cons pe_str (pa_cons pe_str (pa_cons pe_str (pa_cons pe_str (pa_cons pe_str pa_nil)))))) (pa_cons (pe_ix ix_list (pe_lst (pa_cons pe_int (pa_cons pe_int (pa_cons pe_int (pa_cons pe_int pa_nil))))) (pe_cal C__law_draw (hr.mono (by decide)) (pa_cons (pv 2) (pa_cons pe_int pa_nil))) (fun _ _ => rfl)) pa_nil)))) pa_nil)))
    (pss_cons (ps_set (i := 4) sc_law.nd rfl (Or.inr rfl) (pe_tup (pa_cons (pv 3) (pa_cons (pe_callTy (T := "tuple") call_tuple_of (by rfl) m_tuple (by decide +kernel) (pa_cons (pe_lc (own := [("_law_k", 15)]) (tt := tYes) rfl sc_law.nd (pi_range1 (by rfl) m_range (pa_cons (pe_cal C__law_draw (hr.mono (by decide)) (pa_cons (pv 2) (pa_cons pe_int pa_nil))) pa_nil)) (blkOk_by (N := n_law) (sc := defScope s_law) (by decide +kernel)) (fun _ _ _ _ _ => pg_name (i := 15) sc_law.nd rfl (Or.inl rfl)) (fun _ _ _ _ _ => pts_nil) (fun _ _ _ _ _ => (pe_cal C__law_table (hr.mono (by decide)) (pa_cons (pv 2) (pa_cons (pv 3) pa_nil))))) pa_nil)) pa_nil))))
    (pss_cons (ps_set (i := 5) sc_law.nd rfl (Or.inl rfl) (pe_cal C__law_solutions (hr.mono (by decide)) (pa_cons (pv 4) pa_nil)))
    (pss_cons (ps_set (i := 2) sc_law.nd rfl (Or.inr rfl) (pe_cal C__law_source (hr.mono (by decide)) (pa_cons (pv 0) (pa_cons pe_int pa_nil))))
    (pss_cons (ps_set (i := 6) sc_law.nd rfl (Or.inr rfl) (pe_cal C__law_question (hr.mono (by decide)) (pa_cons (pv 2) (pa_cons (pv 4) (pa_cons (pv 5) pa_nil)))))
    (pss_cons (ps_setLc (i := 7) (own := [("_law_values_here", 14)]) rfl sc_law.nd rfl rfl (sw_true rfl rfl rfl (by decide +kernel)) (pi_list (pv 5)) (blkOk_by (N := n_law) (sc := defScope s_law) (by decide +kernel)) (fun _ _ _ _ _ => pg_name (i := 14) sc_law.nd rfl (Or.inl rfl)) (fun _ _ _ _ _ => pts_one (pt_not (pt_val (pe_cal C__law_fits (hr.mono (by decide)) (pa_cons (pv 6) (pa_cons (pv 14) pa_nil)))))) (fun _ _ _ _ _ => (pv 14)))
    (pss_cons (ps_set (i := 8) sc_law.nd rfl (Or.inr rfl) (pe_mth M_certificate (hr.mono (by decide)) (pv 1) (pa_cons (pv 4) (pa_cons (pv 6) pa_nil))))
    (pss_cons (ps_set (i := 9) sc_law.nd rfl (Or.inl rfl) (pe_mth M_counterexample (hr.mono (by decide)) (pv 1) (pa_cons (pv 4) (pa_cons (pv 6) pa_nil))))
    (pss_cons (ps_set (i := 10) sc_law.nd rfl (Or.inr rfl) (pe_cal C__law_made (hr.mono (by decide)) (pa_cons (pv 2) (pa_cons (pv 4) (pa_cons (pe_cal C__law_order (hr.mono (by decide)) (pa_cons (pv 2) (pa_cons (pv 3) pa_nil))) (pa_cons pe_dnewK pa_nil))))))
    (pss_cons (ps_set (i := 11) sc_law.nd rfl (Or.inl rfl) (pe_lst (pa_cons (pv 10) pa_nil)))
    (pss_cons (ps_if (pt_cmpR op_gt (pe_callB call_len_seq (by rfl) m_len PySem.boot_len (pa_cons (pv 7) pa_nil)) pe_int (nomark _))
      (pss_one (ps_if (PW.pt (pw_or (pt_cmpR op_notN (pv 8) pe_non (nomark _)) (pw_or1 (pt_not (pt_val (pe_cal C__law_breaks (hr.mono (by decide)) (pa_cons (pv 9) (pa_cons (pv 6) (pa_cons (pv 5) pa_nil)))))))))
      (pss_one (ps_ret pe_bl))
      pss_nil))
      (pss_cons (ps_if (PW.pt (pw_or (pt_cmpR op_notN (pv 9) pe_non (nomark _)) (pw_or1 (pt_not (pt_val (pe_cal C__law_is_tree (hr.mono (by decide)) (pa_cons (pv 8) (pa_cons (pe_callB call_len_seq (by rfl) m_len PySem.boot_len (pa_cons (pv 3) pa_nil)) pa_nil))))))))
      (pss_one (ps_ret pe_bl))
      pss_nil)
    (pss_cons (ps_if (pt_not (pt_val (pe_cal C__law_rows_show (hr.mono (by decide)) (pa_cons (pv 4) (pa_cons (pv 6) (pa_cons (pv 8) (pa_cons pe_dnewK pa_nil)))))))
      (pss_one (ps_ret pe_bl))
      pss_nil)
    (pss_cons (ps_expr (pe_bm PySem.F.plainAttrs_list PySem.F.slot_list_append PySem.F.type_list_append mt_append (pv 11) (pa_cons (pv 8) pa_nil)))
    (pss_cons (ps_set (i := 2) sc_law.nd rfl (Or.inr rfl) (pe_cal C__law_source (hr.mono (by decide)) (pa_cons (pv 0) (pa_cons pe_int pa_nil))))
    (pss_one (ps_expr (pe_bm PySem.F.plainAttrs_list PySem.F.slot_list_extend PySem.F.type_list_extend mt_extend (pv 11) (pa_cons (pe_lc (own := [("_law_k", 15)]) (tt := tYes) rfl sc_law.nd (pi_range1 (by rfl) m_range (pa_cons pe_int pa_nil)) (blkOk_by (N := n_law) (sc := defScope s_law) (by decide +kernel)) (fun _ _ _ _ _ => pg_name (i := 15) sc_law.nd rfl (Or.inl rfl)) (fun _ _ _ _ _ => pts_nil) (fun _ _ _ _ _ => (pe_cal C__law_changed (hr.mono (by decide)) (pa_cons (pv 2) (pa_cons (pv 3) (pa_cons (pv 8) (pa_cons (pe_callB (call_len_seqK (K := K) rfl) (by rfl) m_len PySem.boot_len (pa_cons (pe_ix (ix_tupK (K := K) rfl) (pv 4) pe_int (fun _ _ => rfl)) pa_nil)) (pa_cons pe_int pa_nil)))))))) pa_nil)))))))))
    (pss_cons (ps_set (i := 2) sc_law.nd rfl (Or.inr rfl) (pe_cal C__law_source (hr.mono (by decide)) (pa_cons (pv 0) (pa_cons pe_int pa_nil))))
    (pss_cons (ps_expr (pe_bm PySem.F.plainAttrs_list PySem.F.slot_list_extend PySem.F.type_list_extend mt_extend (pv 11) (pa_cons (pe_lc (own := [("_law_k", 15)]) (tt := tYes) rfl sc_law.nd (pi_range1 (by rfl) m_range (pa_cons pe_int pa_nil)) (blkOk_by (N := n_law) (sc := defScope s_law) (by decide +kernel)) (fun _ _ _ _ _ => pg_name (i := 15) sc_law.nd rfl (Or.inl rfl)) (fun _ _ _ _ _ => pts_nil) (fun _ _ _ _ _ => (pe_cal C__law_changed (hr.mono (by decide)) (pa_cons (pv 2) (pa_cons (pv 3) (pa_cons (pv 10) (pa_cons (pe_callB (call_len_seqK (K := K) rfl) (by rfl) m_len PySem.boot_len (pa_cons (pe_ix (ix_tupK (K := K) rfl) (pv 4) pe_int (fun _ _ => rfl)) pa_nil)) (pa_cons pe_int pa_nil)))))))) pa_nil)))
    (pss_cons (ps_expr (pe_bm PySem.F.plainAttrs_list PySem.F.slot_list_extend PySem.F.type_list_extend mt_extend (pv 11) (pa_cons (pe_lc (own := [("_law_k", 15)]) (tt := tYes) rfl sc_law.nd (pi_range1 (by rfl) m_range (pa_cons pe_int pa_nil)) (blkOk_by (N := n_law) (sc := defScope s_law) (by decide +kernel)) (fun _ _ _ _ _ => pg_name (i := 15) sc_law.nd rfl (Or.inl rfl)) (fun _ _ _ _ _ => pts_nil) (fun _ _ _ _ _ => (pe_cal C__law_grown (hr.mono (by decide)) (pa_cons (pv 2) (pa_cons (pv 3) (pa_cons (pe_callB (call_len_seqK (K := K) rfl) (by rfl) m_len PySem.boot_len (pa_cons (pe_ix (ix_tupK (K := K) rfl) (pv 4) pe_int (fun _ _ => rfl)) pa_nil)) (pa_cons pe_int pa_nil))))))) pa_nil)))
    (pss_cons (ps_for PassesOwn.never rfl (pi_list (pv 11)) (pg_name (i := 12) sc_law.nd rfl (Or.inl rfl))
      (pss_cons (ps_set (i := 13) sc_law.nd rfl (Or.inl rfl) (pe_mth M_accepts (hr.mono (by decide)) (pv 1) (pa_cons (pv 4) (pa_cons (pv 6) (pa_cons (pv 12) pa_nil)))))
    (pss_one (ps_if (PW.pt (pw_or (pt_not (pt_val (pe_callB (id := "isinstance") call_isi (by rfl) m_isinstance (by decide +kernel) (pa_cons (pv 13) (pa_cons (pe_bltn (v := .ty "bool") (by rfl) m_bool (by decide +kernel) rfl) pa_nil))))) (pw_or1 (pt_cmpR op_ne (pv 13) (pe_cal C__law_rows_show (hr.mono (by decide)) (pa_cons (pv 4) (pa_cons (pv 6) (pa_cons (pv 12) (pa_cons pe_dnewK pa_nil))))) (nomark _)))))
      (pss_one (ps_ret pe_bl))
      pss_nil))))
    (pss_one (ps_ret pe_bl))))))))))))))))))), ?_⟩
    walk_at "rd"
    tm_at "bare k"
    have hsk := Same.seq sk hs
    refine ⟨sa, sc, 0, rfl, Same.seq sk hs, by decide, fun src n0 c0 ns0 => ?_⟩
    generalize hu0 : upd Hk src _ = H1
    obtain ⟨s1, hs1⟩ := Go.al ns0 hu0
    clear hu0
    have hA1 : Src H1 src := ⟨n0, c0, hs1⟩
    have hk1 := s1 _ _ hk
    have hsa1 := Same.seq (sk.trans s1) hs
    walk_at "rd"
    tm_at "al Q0"
    tm_at "al L0"
    have u2 := sQ0.trans sL0
    have hA2 := src_same hA1 u2
    have L0s := (src_ne (src_same hA1 sQ0) nL0).symm
    have Q0s := (src_ne hA1 nQ0).symm
    refine draw_of hA2 ⟨by decide, by decide⟩ fun r H3 r0 r1 b3 hA3 => ?_
    obtain ⟨m, hm, m8⟩ : ∃ m : Int, atI [V.int 2, V.int 3, V.int 3, V.int 4] r = some (.int m) ∧ m ≤ 4 := by
      obtain rfl | rfl | rfl | rfl : r = 0 ∨ r = 1 ∨ r = 2 ∨ r = 3 := by omega
      · exact ⟨_, rfl, by decide⟩
      · exact ⟨_, rfl, by decide⟩
      · exact ⟨_, rfl, by decide⟩
      · exact ⟨_, rfl, by decide⟩
    walk_at "rd"
    refine ⟨_, _, _, _, rfl, rfl, sq (b3 _ _ L0s hL0), hm, ?_⟩
    walk_at "rd"
    show spSome K _ _ _ _
    unfold spSome
    refine ⟨src, Q0, pool5, m, rfl, hA3, .inl ⟨Q0s, b3 _ _ Q0s (sL0 _ _ hQ0)⟩, by decide, by omega, fun N ns H4 b4 hA4 nN hN nl sub => ?_⟩
    have n4 : ns.length ≤ 4 := by omega
    have nd : ns.Nodup := pool5_nd.sublist sub
    have sok : ∀ z ∈ ns, PyData.strOk z = true := fun z hz => pool5_ok z (sub.subset hz)
    have kk4 : Same Hk H4 := SameBut.same s1 ns0 ((Bx.Same.but u2).trans (b3.trans b4))
    walk_at "rd"
    tm_at "tp na"
    have hA5 := src_same hA4 sna
    have kk5 := kk4.trans sna
    clear hA1 hk1 hsa1 hQ0 hL0 hN hA2 hA3 L0s Q0s
    refine draw_of hA5 ⟨by decide, by decide⟩ fun c5 H6 c0 c1 b6 hA6 => ?_
    have kk6 := SameBut.same (Same.refl Hk) ns0 (Bx.Same.but kk5 |>.trans b6)
    have hna6 := Go.tupB hA5 b6 (sqt (K := K) hna)
    walk_at "rd"
    refine ⟨by omega, by omega, fun D nD => ?_⟩
    have nDs := (src_ne hA6 nD)
    refine lc_it walk_range (fun i H' => SameBut src H6 H' ∧ Src H' src ∧ ∃ (vs : List V) (ts : List Tab), H' D = some (.lst vs) ∧ TAll K H' vs ts ∧ ts.length = i ∧ ∀ t ∈ ts, t.1.Sublist ns ∧ t.1.length ≤ 3 ∧ t.2.Sublist (rowsN t.1.length)) ⟨Bx.Same.but (same_new nD), src_upd hA6 nDs, [], [], upd_same, .nil, rfl, fun t h => nomatch h⟩ (fun _ _ _ _ => trivial) ?_ ?_
    · rintro i v H7a H7 hi ⟨b7, hA7, vs, ts, hV, ta, tl, tp⟩ ⟨rfl, rfl⟩
      refine ⟨rfl, ?_⟩
      walk_at "rd"
      show spTable K _ _ _ _
      unfold spTable
      refine ⟨src, na, ns, rfl, hA7, Go.tupB hA6 b7 hna6, by omega, fun p t H8 b8 hA8 hp p1 p2 p3 => ?_⟩
      have hV8 := b8 _ _ nDs.symm hV
      have ta8 := ta.kp (Go.kp_but hA7 b8)
      have vl : vs.length = ts.length := ta.len
      refine ⟨vs, hV8, szl (by omega), but_at nD (b7.trans b8), src_upd hA8 nDs, vs ++ [.ref p], ts ++ [t], upd_same, ?_, by rw [List.length_append, tl]; rfl, fun u hu => ?_⟩
      · exact TAll.kp (Go.kp_lst hV8) (ta8.app (.one ⟨p, rfl, hp⟩))
      · rcases List.mem_append.mp hu with hu | hu
        · exact tp u hu
        · rw [List.mem_singleton.mp hu]
          exact ⟨p1, p2, p3⟩
    rintro H7 ⟨b7, hA7, us, ts, hV, ta, tl, tp⟩
    have tl4 : ts.length ≤ 4 := by omega
    have hna7 := Go.tupB hA6 b7 hna6
    have kk7 := SameBut.same (Same.refl Hk) ns0 (Bx.Same.but kk6 |>.trans b7)
    walk_at "rd"
    tm_at "tp ca"
    tm_at "al T"
    have uT := sca.trans sT
    have th : ThAt K HT T ns ts := ⟨na, ca, us, sqt hT, Bx.Same.tup uT hna7, Bx.Same.tup sT (sqt hca), ta.same uT⟩
    have hnaT := Bx.Same.tup uT hna7
    have kkT := kk7.trans uT
    have tab : ∀ t ∈ ts, TOk t ∧ t.1.length ≤ 5 ∧ ∀ z ∈ t.1, z ∈ ns := fun t ht => ⟨⟨(tp t ht).1.nodup nd, (tp t ht).2.2⟩, by have := (tp t ht).2.1; omega, fun z hz => (tp t ht).1.subset hz⟩
    clear b6 b7 hA6 hA7 hV ta hna hna6 hna7 hT hca sT sca uT hA5 kk4 kk5 kk6 kk7 nD hA4 b3 b4 sQ0 sL0
    walk_at "rd"
    show spSol K _ _ _ _
    unfold spSol
    refine ⟨T, ns, ts, rfl, th, nd, by omega, fun t ht => ⟨by have := (tab t ht).2.1; omega, (tab t ht).2.2⟩, by omega, fun so H8 s8 nso hso => ?_⟩
    have kk8 := kkT.trans s8
    walk_at "rd"
    refine ⟨sa, sc, 1, rfl, Same.seq (sk.trans kk8) hs, by decide, fun s2 n2 c2 ns2 => ?_⟩
    generalize hu0 : upd H8 s2 _ = H9
    obtain ⟨s9, hs9⟩ := Go.al ns2 hu0
    clear hu0
    have hA9 : Src H9 s2 := ⟨n2, c2, hs9⟩
    have th9 := th.same (s8.trans s9)
    have so2 : so ≠ s2 := fun e => by
      obtain ⟨us', h, _⟩ := hso
      rw [e, ns2] at h
      cases h
    have hso9 := hso.same s9
    walk_at "rd"
    show spQuest K _ _ _ _
    unfold spQuest
    refine ⟨s2, T, so, ns, ts, solR ns ts, rfl, hA9, th9, nd, by omega, tab, by omega, so2, hso9, fun r hr => rowsN_len _ r (List.mem_filter.mp hr).1, ?_, fun p qq H10 b10 hA10 hq q1 q2 q3 => ?_⟩
    · refine Nat.le_trans (List.length_filter_le _ _) ?_
      rw [rowsN_num]
      exact Nat.le_trans (Nat.pow_le_pow_right (by decide) n4) (by decide)
    have ok : ThOk ns ts qq := ⟨⟨by rw [List.map_nil, List.nil_append]; exact nd, (fun z => ⟨.inr, fun h => h.elim (fun h => nomatch h) id⟩), (fun p h => nomatch h), tab, q3, sok, by show 0 + ns.length ≤ 20; omega, by omega⟩, by omega, q1, q2⟩
    have s810 : Same H8 H10 := SameBut.same s9 ns2 b10
    have th10 := th9.kp (Go.kp_but hA9 b10)
    have hso10 := hso9.but hA9 so2 b10
    obtain ⟨sus, hsus, hsall⟩ := id hso10
    have slen : (solR ns ts).length ≤ 243 := by
      refine Nat.le_trans (List.length_filter_le _ _) ?_
      rw [rowsN_num]
      exact Nat.le_trans (Nat.pow_le_pow_right (by decide) n4) (by decide)
    walk_at "rd"
    refine ⟨⟨_, sq hsus⟩, fun D7 nD7 => ?_⟩
    refine Go.lc_rel walk_list (solR ns ts) (fun r => !fitT (val ns r) qq) (fun _ _ _ => True) hsall.len.symm (by rw [hsall.len]; omega) nD7 (fun _ _ _ _ _ h => h) (fun _ _ _ _ _ _ h => h) (fun H' s => sq (s _ _ hsus)) Go.yat ?_ ?_
    · rintro j r v H11a H11 hr0 s11 ⟨rfl, hv⟩ Z Z' hZ hZ'
      obtain ⟨r', hr1, d, rfl, hd⟩ := hsall.at hv
      rw [hr0] at hr1
      cases hr1
      have rl := rowsN_len _ r (List.mem_filter.mp (List.mem_of_getElem? hr0)).1
      refine ⟨rfl, ?_⟩
      walk_at "rd"
      show spFits K _ _ _ _
      unfold spFits
      refine ⟨p, d, qq, val ns r, ns, rfl, hq.same s11, vat_zip rl (s11 _ _ hd), ⟨by omega, q3⟩, fun H12 s12 => ?_⟩
      refine ⟨_, rfl, ?_⟩
      cases c : fitT (val ns r) qq with
      | true =>
        exact hZ' _ (by rw [c]; rfl) s12
      | false =>
        walk_at "rd"
        exact hZ _ _ (by rw [c]; rfl) s12 trivial
    rintro H11 bs s11 hB hbs
    have bl := hbs.len
    have th11 := th10.same s11
    have hq11 := hq.same s11
    have hso11 := hso10.same s11
    have kk11 := kk8.trans (s810.trans s11)
    have hk11 := kk11 _ _ hk
    walk_at "rd"
    tm_at "me"
    show spCert K C _ _ _ _
    unfold spCert
    refine ⟨k, dk, T, p, ns, ts, qq, rfl, hk11, th11, hq11, ok, fun vc H12 s12 hc => ?_⟩
    have hk12 := s12 _ _ hk11
    walk_at "rd"
    tm_at "me"
    show spCtr K C _ _ _ _
    unfold spCtr
    refine ⟨k, dk, T, p, ns, ts, qq, rfl, hk12, th11.same s12, hq11.same s12, ok, fun vf H13 s13 hf => ?_⟩
    have hA13 := src_same hA10 (s11.trans (s12.trans s13))
    have s913 : SameBut s2 H9 H13 := b10.trans (Bx.Same.but (s11.trans (s12.trans s13)))
    have hna9 := Bx.Same.tup (s8.trans s9) hnaT
    walk_at "rd"
    show spOrder K _ _ _ _
    unfold spOrder
    refine ⟨s2, na, ns, rfl, hA13, sqt_but hA9 s913 hna9, by omega, fun o os H14 b14 hA14 no ho pm => ?_⟩
    have os2 : o ≠ s2 := (src_ne hA13 no).symm
    have ol := pm.length_eq
    walk_at "rd"
    refine fun e0 ne0 => ?_
    have s15 := same_new ne0 (o := .dK [])
    have he0 := upd_same (H := H14) (a := e0) (o := .dK [])
    generalize upd H14 e0 (.dK []) = H15 at s15 he0 ⊢
    have hA15 := src_same hA14 s15
    have b915 : SameBut s2 H9 H15 := s913.trans (b14.trans (Bx.Same.but s15))
    have tsok : TsOk ts := ⟨fun t ht => ⟨(tab t ht).1, (tab t ht).2.1⟩⟩
    walk_at "rd"
    refine ⟨s2, T, o, e0, ns, os, ts, [], rfl, hA15, th9.kp (Go.kp_but hA9 b915), tsok, by omega, os2, s15 _ _ ho, (show os.length ≤ 5 by omega), he0, ?_, by show 0 + os.length ≤ 50; omega, fun vm trm H16 b16 hA16 dm dlm => ?_⟩
    · rw [List.map_nil, List.nil_append]
      exact pm.nodup_iff.mpr nd
    have b916 := b915.trans b16
    have s816 : Same H8 H16 := SameBut.same s9 ns2 b916
    have b1016 : SameBut s2 H10 H16 := (Bx.Same.but (s11.trans (s12.trans s13))).trans (b14.trans ((Bx.Same.but s15).trans b16))
    have b1216 : SameBut s2 H12 H16 := (Bx.Same.but s13).trans (b14.trans ((Bx.Same.but s15).trans b16))
    have hA12 := src_same hA10 (s11.trans s12)
    have b1316 : SameBut s2 H13 H16 := b14.trans ((Bx.Same.but s15).trans b16)
    have th16 := (th.same s8).same s816
    have hna16 := Bx.Same.tup (s8.trans s816) hnaT
    have hq16 := hq.kp (Go.kp_but hA10 b1016)
    have kk16 := kk8.trans s816
    have hk16 := kk16 _ _ hk
    have nD7s : D7 ≠ s2 := (src_ne hA10 nD7).symm
    have hB16 : H16 D7 = some (.lst bs) := b1316 _ _ nD7s (s13 _ _ (s12 _ _ hB))
    have hso12 := hso11.same s12
    have hs16 := Same.seq kk16 hsk
    obtain ⟨na1, ca1, us1', g1, g2, g3, g4⟩ := id th16
    have dm6 : dep trm ≤ 6 := by omega
    clear b10 b14 b16 b915 b916 b1016 s913 hA9 hA10 hA13 hA14 hA15 s9 hs9 s11 s15 hq hq11 th9 th10 th11 hso hso9 hso10 hso11 hB hsus hsall hna9 he0 ho no pm hk11 hk12 kk11 s810 th s8 ne0 ns2 nso nT nca nna nN sna hk nk sk ns0 s1 hs1 nD7
    walk_at "rd"
    refine ⟨sz (by show 1 ≤ 100000; decide), fun t0 nt0 => ?_⟩
    generalize hu0 : upd H16 t0 (.lst [vm]) = H17
    obtain ⟨s17, ht17⟩ := Go.al nt0 hu0
    clear hu0
    dsimp only [gName]
    refine Go.st_ss (fun σ' H' => ∃ o2 : Option V, σ' = [some (.ref sa), some (.ref k), o2, some (.ref na), some (.ref T), some (.ref so), some (.ref p), some (.ref D7), some vc, some vf, some vm, some (.ref t0), none, none, none, none] ∧ Same H16 H' ∧ ∃ (us' : List V) (trs : List Tr), H' t0 = some (.lst us') ∧ DpAll K H' us' (trs.map trD) ∧ trs.length ≤ 20 ∧ ∀ tr ∈ trs, dep tr ≤ 6) ?_ ?_
    · intro D' hD' hrt
      walk_at "rd"
      refine ⟨_, _, rfl, .inl (sq (s17 _ _ hB16)), ?_⟩
      walk_at "rd"
      refine ite2 (fun c => ?_) (fun c => ?_)
      · have c1 := of_decide_eq_true c
        obtain ⟨r, hr1⟩ : ∃ r, r ∈ (solR ns ts).filter fun r => !fitT (val ns r) qq := List.exists_mem_of_length_pos (by omega)
        obtain ⟨hr2, hr3⟩ := List.mem_filter.mp hr1
        have hr4 : fitT (val ns r) qq = false := by
          rw [← Bool.not_eq_true']
          exact hr3
        rcases hc with ⟨tr, _, _, hR⟩ | ⟨l, rfl, _⟩
        · rw [tree_brk ok hR r hr2] at hr4
          cases hr4
        rcases hf with ⟨tr, rfl, hR⟩ | ⟨d, l2, rfl, hd, fo, dn⟩
        · rw [tree_brk ok hR r hr2] at hr4
          cases hr4
        walk_at "rd"
        show spBreaks K _ _ _ _
        unfold spBreaks
        obtain ⟨us9, hu9, all9⟩ := id hso12
        refine ⟨d, p, so, ns, ts, qq, l2, us9, rfl, s17 _ _ (Go.dkB (src_same hA12 s13) b1316 hd), hq16.same s17, s17 _ _ (b1216 _ _ so2 hu9), all9.mono fun v r ⟨e, e1, e2⟩ => ⟨e, e1, s17 _ _ (Go.dkB hA12 b1216 e2), fun h => by rw [h, dn] at e2; cases e2⟩, ok, fo, fun H18 s18 => ?_⟩
        walk_at "rd"
        exact hD' _ _ ⟨_, rfl, s17.trans s18, [vm], [trm], s18 _ _ ht17, da_one (dp_same (s17.trans s18) dm), (show 1 ≤ 20 by decide), fun tr ht => by rw [List.mem_singleton.mp ht]; exact dm6⟩
      · have nob : ∀ r ∈ solR ns ts, fitT (val ns r) qq = true := fun r hr => by
          cases e : fitT (val ns r) qq with
          | true => rfl
          | false =>
            exfalso
            refine c (decide_eq_true ?_)
            have : r ∈ (solR ns ts).filter fun r => !fitT (val ns r) qq := List.mem_filter.mpr ⟨hr, by rw [e]; rfl⟩
            have := List.length_pos_of_mem this
            omega
        rcases hf with ⟨tr0, rfl, _⟩ | ⟨d, l2, rfl, hd, fo, dn⟩
        rotate_left
        · obtain ⟨r, hr1, hr2⟩ := found_brk ok fo
          rw [nob r hr1] at hr2
          cases hr2
        rcases hc with ⟨tr, dv, dl, hR⟩ | ⟨l, rfl, fo⟩
        rotate_left
        · obtain ⟨r, hr1, hr2⟩ := found_brk ok fo
          rw [nob r hr1] at hr2
          cases hr2
        have dv17 := dp_same s17 (Go.dpB hA12 b1216 (tup_tr tr) dv)
        have dl4 : dep tr ≤ 4 := by omega
        walk_at "rd"
        refine ⟨_, _, rfl, .inr (Bx.Same.tup s17 hna16), ?_⟩
        rw [List.length_map]
        walk_at "rd"
        refine ⟨vc, tr, ns.length, rfl, dv17, dl, (show ns.length ≤ 5 by omega), fun H18 s18 => ?_⟩
        walk_at "rd"
        refine fun e1 ne1 => ?_
        have s19 := same_new ne1 (o := .dK [])
        have he1 := upd_same (H := H18) (a := e1) (o := .dK [])
        generalize upd H18 e1 (.dK []) = H19 at s19 he1 ⊢
        have s1719 := s18.trans s19
        have s1619 := s17.trans s1719
        refine ⟨T, p, e1, vc, ns, ts, qq, tr, [], rfl, th16.same s1619, hq16.same s1619, q1, q2, dp_same s1719 dv17, (show dep tr ≤ 7 by omega), tsok, by omega, he1, List.nodup_nil, (show 0 + 7 ≤ 100 by decide), fun H20 s20 => ?_⟩
        rw [show Rt ns ts qq tr (lk []) = true from hR]
        have s1720 := s1719.trans s20
        have hL20 := s1720 _ _ ht17
        walk_at "rd"
        refine ⟨.inl ⟨rfl, _, sq hL20⟩, ?_⟩
        walk_at "rd"
        refine ⟨_, _, _, rfl, rfl, hL20, szl (show 1 < 100000 by decide), ?_⟩
        have dA : DpAll K (upd H20 t0 (.lst ([vm] ++ [vc]))) ([vm] ++ [vc]) ([trm].map trD ++ [trD tr]) := Go.da_put hL20 (Go.tupAll_map tup_tr [trm]) (tup_tr tr) (da_one (dp_same (s17.trans s1720) dm)) (dp_same s1720 dv17)
        have hL21 := upd_same (H := H20) (a := t0) (o := .lst ([vm] ++ [vc]))
        have s1621 : Same H16 (upd H20 t0 (.lst ([vm] ++ [vc]))) := same_at nt0 (s17.trans s1720)
        generalize upd H20 t0 (.lst ([vm] ++ [vc])) = H21 at dA hL21 s1621 ⊢
        walk_at "rd"
        refine ⟨sa, sc, 2, rfl, Same.seq s1621 hs16, by decide, fun s4 n4' c4' ns4 => ?_⟩
        generalize hu0 : upd H21 s4 _ = H22
        obtain ⟨s22, hs22⟩ := Go.al ns4 hu0
        clear hu0
        have hA22 : Src H22 s4 := ⟨n4', c4', hs22⟩
        have t0s4 : t0 ≠ s4 := fun e => by rw [← e, hL21] at ns4; cases ns4
        have hL22 := s22 _ _ hL21
        walk_at "rd"
        refine ⟨.inl ⟨rfl, _, sq hL22⟩, ?_⟩
        walk_at "rd"
        refine ⟨by decide, by decide, fun D8 nD8 => ?_⟩
        have nDs8 := (src_ne hA22 nD8).symm
        refine lc_it walk_range (fun i H' => SameBut s4 H22 H' ∧ Src H' s4 ∧ ∃ (us' : List V) (trs : List Tr), H' D8 = some (.lst us') ∧ DpAll K H' us' (trs.map trD) ∧ trs.length = i ∧ ∀ tr ∈ trs, dep tr ≤ 6) ⟨Bx.Same.but (same_new nD8), src_upd hA22 nDs8.symm, [], [], upd_same, .nil, rfl, fun t h => (nomatch h)⟩ (fun _ _ _ _ => trivial) ?_ ?_
        · rintro i x H23a H23 hi ⟨b23, hA23, us', trs, hL, dL, tl0, tR⟩ ⟨rfl, rfl⟩
          have hi8 : i < 8 := hi
          have s1623 : Same H16 H23 := s1621.trans (SameBut.same s22 ns4 b23)
          refine ⟨rfl, ?_⟩
          walk_at "rd"
          refine ⟨_, _, _, _, rfl, rfl, Bx.Same.tup s1623 g1, atI_nat (j := 1) rfl, ?_⟩
          walk_at "rd"
          refine ⟨_, _, rfl, .inr (Bx.Same.tup s1623 g3), ?_⟩
          rw [g4.len]
          walk_at "rd"
          refine ⟨s4, na, ns, vc, tr, ts.length, 5, rfl, hA23, Bx.Same.tup s1623 hna16, by omega, by omega, Nat.le_refl 5, dp_same s1623 (Go.dpB hA12 b1216 (tup_tr tr) dv), fun v' tr' H24 b24 hA24 dv' dl' => ?_⟩
          have hL24 := b24 _ _ nDs8 hL
          have ul : us'.length < 8 := by rw [da_len dL, List.length_map]; omega
          refine ⟨us', hL24, szl (by omega), but_at nD8 (b23.trans b24), src_upd hA24 nDs8.symm, us' ++ [v'], trs ++ [tr'], upd_same, ?_, by rw [List.length_append, tl0]; rfl, fun t ht => ?_⟩
          · rw [List.map_append]
            exact Go.da_put hL24 (Go.tupAll_map tup_tr _) (tup_tr tr') (Go.daB hA23 b24 (Go.tupAll_map tup_tr _) dL) dv'
          · rcases List.mem_append.mp ht with h | h
            · exact tR t h
            · rw [List.mem_singleton.mp h]
              omega
        · rintro H23 ⟨b23, hA23, us', trs, hL, dL, tl0, tR⟩
          have tl8 : trs.length = 8 := tl0
          have hL23 := b23 _ _ t0s4 hL22
          have ul : us'.length = 8 := by rw [da_len dL, List.length_map, tl8]
          have dA23 : DpAll K H23 ([vm] ++ [vc]) ([trm, tr].map trD) := Go.daB hA22 b23 (Go.tupAll_map tup_tr _) (dpAll_same s22 dA)
          walk_at "rd"
          refine ⟨_, _, _, _, rfl, rfl, hL23, hL, sz (by rw [ul]; show 2 + 8 ≤ 100000; decide), ?_⟩
          have tk := tk_lst (K := K) (o := .lst (([vm] ++ [vc]) ++ us')) hL23
          refine hD' _ _ ⟨_, rfl, same_at nt0 (s1621.trans (SameBut.same s22 ns4 b23)), ([vm] ++ [vc]) ++ us', [trm, tr] ++ trs, upd_same, ?_, by rw [List.length_append, tl8]; show 2 + 8 ≤ 20; decide, fun t ht => ?_⟩
          · rw [List.map_append]
            exact da_app (da_tk tk _ _ (Go.tupAll_map tup_tr _) dA23) (da_tk tk _ _ (Go.tupAll_map tup_tr _) dL)
          · rcases List.mem_append.mp ht with h | h
            · rcases List.mem_cons.mp h with h | h
              · rw [h]
                exact dm6
              · rw [List.mem_singleton.mp h]
                omega
            · exact tR t h
    · rintro σ H18 ⟨o2, rfl, s18, us1, trs1, hL1, dL1, tl1, tR1⟩
      have ul1 : us1.length ≤ 20 := by rw [da_len dL1, List.length_map]; exact tl1
      walk_at "rd"
      refine ⟨sa, sc, 3, rfl, Same.seq s18 hs16, by decide, fun s4 n4' c4' ns4 => ?_⟩
      generalize hu0 : upd H18 s4 _ = H22
      obtain ⟨s22, hs22⟩ := Go.al ns4 hu0
      clear hu0
      have hA22 : Src H22 s4 := ⟨n4', c4', hs22⟩
      have t0s4 : t0 ≠ s4 := fun e => by rw [← e, hL1] at ns4; cases ns4
      have hL22 := s22 _ _ hL1
      walk_at "rd"
      refine ⟨.inl ⟨rfl, _, sq hL22⟩, ?_⟩
      walk_at "rd"
      refine ⟨by decide, by decide, fun D8 nD8 => ?_⟩
      have nDs8 := (src_ne hA22 nD8).symm
      refine lc_it walk_range (fun i H' => SameBut s4 H22 H' ∧ Src H' s4 ∧ ∃ (us' : List V) (trs : List Tr), H' D8 = some (.lst us') ∧ DpAll K H' us' (trs.map trD) ∧ trs.length = i ∧ ∀ tr ∈ trs, dep tr ≤ 6) ⟨Bx.Same.but (same_new nD8), src_upd hA22 nDs8.symm, [], [], upd_same, .nil, rfl, fun t h => (nomatch h)⟩ (fun _ _ _ _ => trivial) ?_ ?_
      · rintro i x H23a H23 hi ⟨b23, hA23, us', trs, hL, dL, tl0, tR⟩ ⟨rfl, rfl⟩
        have hi8 : i < 8 := hi
        have s1623 : Same H16 H23 := s18.trans (SameBut.same s22 ns4 b23)
        refine ⟨rfl, ?_⟩
        walk_at "rd"
        refine ⟨_, _, _, _, rfl, rfl, Bx.Same.tup s1623 g1, atI_nat (j := 1) rfl, ?_⟩
        walk_at "rd"
        refine ⟨_, _, rfl, .inr (Bx.Same.tup s1623 g3), ?_⟩
        rw [g4.len]
        walk_at "rd"
        refine ⟨s4, na, ns, vm, trm, ts.length, 5, rfl, hA23, Bx.Same.tup s1623 hna16, by omega, by omega, Nat.le_refl 5, dp_same s1623 dm, fun v' tr' H24 b24 hA24 dv' dl' => ?_⟩
        have hL24 := b24 _ _ nDs8 hL
        have ul : us'.length < 8 := by rw [da_len dL, List.length_map]; omega
        refine ⟨us', hL24, szl (by omega), but_at nD8 (b23.trans b24), src_upd hA24 nDs8.symm, us' ++ [v'], trs ++ [tr'], upd_same, ?_, by rw [List.length_append, tl0]; rfl, fun t ht => ?_⟩
        · rw [List.map_append]
          exact Go.da_put hL24 (Go.tupAll_map tup_tr _) (tup_tr tr') (Go.daB hA23 b24 (Go.tupAll_map tup_tr _) dL) dv'
        · rcases List.mem_append.mp ht with h | h
          · exact tR t h
          · rw [List.mem_singleton.mp h]
            omega
      rintro H23 ⟨b23, hA23, us2, trs2, hL2, dL2, tl2, tR2⟩
      have tl8 : trs2.length = 8 := tl2
      have hL23 := b23 _ _ t0s4 hL22
      have ul2 : us2.length = 8 := by rw [da_len dL2, List.length_map, tl8]
      have dA23 : DpAll K H23 us1 (trs1.map trD) := Go.daB hA22 b23 (Go.tupAll_map tup_tr _) (dpAll_same s22 dL1)
      walk_at "rd"
      refine ⟨_, _, _, _, rfl, rfl, hL23, hL2, sz (by omega), ?_⟩
      have tk := tk_lst (K := K) (o := .lst (us1 ++ us2)) hL23
      have dA24 : DpAll K (upd H23 t0 (.lst (us1 ++ us2))) (us1 ++ us2) ((trs1 ++ trs2).map trD) := by
        rw [List.map_append]
        exact da_app (da_tk tk _ _ (Go.tupAll_map tup_tr _) dA23) (da_tk tk _ _ (Go.tupAll_map tup_tr _) dL2)
      have hL24 := upd_same (H := H23) (a := t0) (o := .lst (us1 ++ us2))
      have s1624 : Same H16 (upd H23 t0 (.lst (us1 ++ us2))) := same_at nt0 (s18.trans (SameBut.same s22 ns4 b23))
      have hA24 : Src (upd H23 t0 (.lst (us1 ++ us2))) s4 := src_upd hA23 t0s4.symm
      have tR24 : ∀ t ∈ trs1 ++ trs2, dep t ≤ 6 := fun t ht => (List.mem_append.mp ht).elim (tR1 t) (tR2 t)
      have ns416 : H16 s4 = none := s18.free ns4
      have ul24 : (us1 ++ us2).length ≤ 28 := by rw [List.length_append]; omega
      generalize upd H23 t0 (.lst (us1 ++ us2)) = H24 at dA24 hL24 s1624 hA24 ⊢
      generalize us1 ++ us2 = us3 at dA24 hL24 ul24
      generalize trs1 ++ trs2 = trs3 at dA24 tR24
      clear dA23 tk dL1 dL2 hL1 hL2 hL22 hL23 hs22
      walk_at "rd"
      refine ⟨.inl ⟨rfl, _, sq hL24⟩, ?_⟩
      walk_at "rd"
      refine ⟨by decide, by decide, fun D9 nD9 => ?_⟩
      have nDs9 := (src_ne hA24 nD9).symm
      refine lc_it walk_range (fun i H' => SameBut s4 H24 H' ∧ Src H' s4 ∧ ∃ (us' : List V) (trs : List Tr), H' D9 = some (.lst us') ∧ DpAll K H' us' (trs.map trD) ∧ trs.length = i ∧ ∀ tr ∈ trs, dep tr ≤ 6) ⟨Bx.Same.but (same_new nD9), src_upd hA24 nDs9.symm, [], [], upd_same, .nil, rfl, fun t h => (nomatch h)⟩ (fun _ _ _ _ => trivial) ?_ ?_
      · rintro i x H25a H25 hi ⟨b25, hA25, us', trs, hL, dL, tl0, tR⟩ ⟨rfl, rfl⟩
        have hi6 : i < 6 := hi
        have s1625 : Same H16 H25 := SameBut.same s1624 ns416 b25
        refine ⟨rfl, ?_⟩
        walk_at "rd"
        refine ⟨_, _, _, _, rfl, rfl, Bx.Same.tup s1625 g1, atI_nat (j := 1) rfl, ?_⟩
        walk_at "rd"
        refine ⟨_, _, rfl, .inr (Bx.Same.tup s1625 g3), ?_⟩
        rw [g4.len]
        walk_at "rd"
        refine ⟨s4, na, ns, ts.length, 2, rfl, hA25, Bx.Same.tup s1625 hna16, by omega, by omega, Nat.le_refl 2, fun v' tr' H26 b26 hA26 dv' dl' => ?_⟩
        have hL26 := b26 _ _ nDs9 hL
        have ul : us'.length < 6 := by rw [da_len dL, List.length_map]; omega
        refine ⟨us', hL26, szl (by omega), but_at nD9 (b25.trans b26), src_upd hA26 nDs9.symm, us' ++ [v'], trs ++ [tr'], upd_same, ?_, by rw [List.length_append, tl0]; rfl, fun t ht => ?_⟩
        · rw [List.map_append]
          exact Go.da_put hL26 (Go.tupAll_map tup_tr _) (tup_tr tr') (Go.daB hA25 b26 (Go.tupAll_map tup_tr _) dL) dv'
        · rcases List.mem_append.mp ht with h | h
          · exact tR t h
          · rw [List.mem_singleton.mp h]
            omega
      rintro H25 ⟨b25, hA25, us4, trs4, hL4, dL4, tl4', tR4⟩
      have tl6 : trs4.length = 6 := tl4'
      have hL25 := b25 _ _ t0s4 hL24
      have ul4 : us4.length = 6 := by rw [da_len dL4, List.length_map, tl6]
      have dA25 : DpAll K H25 us3 (trs3.map trD) := Go.daB hA24 b25 (Go.tupAll_map tup_tr _) dA24
      walk_at "rd"
      refine ⟨_, _, _, _, rfl, rfl, hL25, hL4, sz (by omega), ?_⟩
      have tk := tk_lst (K := K) (o := .lst (us3 ++ us4)) hL25
      have dA26 : DpAll K (upd H25 t0 (.lst (us3 ++ us4))) (us3 ++ us4) ((trs3 ++ trs4).map trD) := by
        rw [List.map_append]
        exact da_app (da_tk tk _ _ (Go.tupAll_map tup_tr _) dA25) (da_tk tk _ _ (Go.tupAll_map tup_tr _) dL4)
      have hL26 := upd_same (H := H25) (a := t0) (o := .lst (us3 ++ us4))
      have s1626 : Same H16 (upd H25 t0 (.lst (us3 ++ us4))) := same_at nt0 (SameBut.same s1624 ns416 b25)
      have tR26 : ∀ t ∈ trs3 ++ trs4, dep t ≤ 6 := fun t ht => (List.mem_append.mp ht).elim (tR24 t) (tR4 t)
      generalize upd H25 t0 (.lst (us3 ++ us4)) = H26 at dA26 hL26 s1626 ⊢
      generalize us3 ++ us4 = us5 at dA26 hL26
      generalize trs3 ++ trs4 = trs5 at dA26 tR26
      clear dA25 tk dA24 dL4 hL4 hL24 hL25
      walk_at "rd"
      refine ⟨⟨_, sq hL26⟩, for_it walk_list (fun i σ H' => ∃ o12 o13 : Option V, σ = [some (.ref sa), some (.ref k), some (.ref s4), some (.ref na), some (.ref T), some (.ref so), some (.ref p), some (.ref D7), some vc, some vf, some vm, some (.ref t0), o12, o13, none, none] ∧ Same H26 H') ⟨none, none, rfl, Same.refl _⟩ (fun i σ H' _ ⟨_, _, _, s⟩ => sq (s _ _ hL26)) ?_ ?_⟩
      · rintro i x σ H27a H27 hi ⟨o12, o13, rfl, s27⟩ ⟨rfl, hx⟩
        obtain ⟨tr, htr, dx⟩ := da_atM dA26 hx
        have dl := tR26 tr (List.mem_of_getElem? htr)
        have s1627 := s1626.trans s27
        have hk27 := s1627 _ _ hk16
        walk_at "rd"
        tm_at "me"
        show spAcc K C _ _ _ _
        unfold spAcc
        refine ⟨k, dk, T, p, x, ns, ts, qq, tr, rfl, hk27, th16.same s1627, hq16.same s1627, ok, dp_same s27 dx, by omega, fun H28 s28 => ?_⟩
        have s1628 := s1627.trans s28
        walk_at "rd"
        refine ⟨_, _, _, _, true, rfl, .ty "bool", .base (.bl _), kit_ty (by decide +kernel), ?_⟩
        walk_at "rd"
        refine fun e1 ne1 => ?_
        have s29 := same_new ne1 (o := .dK [])
        have he1 := upd_same (H := H28) (a := e1) (o := .dK [])
        generalize upd H28 e1 (.dK []) = H29 at s29 he1 ⊢
        have s1629 := s1628.trans s29
        refine ⟨T, p, e1, x, ns, ts, qq, tr, [], rfl, th16.same s1629, hq16.same s1629, q1, q2, dp_same (s27.trans (s28.trans s29)) dx, (show dep tr ≤ 7 by omega), tsok, by omega, he1, List.nodup_nil, (show 0 + 7 ≤ 100 by decide), fun H30 s30 => ?_⟩
        walk_at "rd"
        refine ite2 (fun h => ?_) (fun _ => ?_)
        · exact absurd h (by simp [lk_nil])
        · walk_at "rd"
          exact ⟨_, _, rfl, s27.trans (s28.trans (s29.trans s30))⟩
      · rintro σ H27 ⟨o12, o13, rfl, s27⟩
        walk_at "rd"
        exact q H27
end
end K21
namespace K21
open PySem PySem.Spec PyProof.Rows L2 Bx TL Dx Zx Ow Sup NdefX Px
set_option maxHeartbeats 8000000 in
theorem all_mk {l : PySem.W.OpenLaw} {w : World} {K : PySem.W.Frag} {h : Heap} {mg : Str → Option Value} {fa : Addr} (X : K.In h) (G : h.Ns mainGlobals mg) (hfa : mg "law" = some (.ref fa))
    {C : Addr}
    {tv_VALUES : Addr} {od_VALUES : Option Addr} {n_VALUES : Nat} {sl_VALUES : Array (Option Value)} {t0_VALUES : Tok} {t1_VALUES : Tok} {t2_VALUES : Tok}
    {f_agreeing : Addr} {oc_agreeing kV_agreeing dc_agreeing pm_agreeing cd_agreeing ct_agreeing : Value} {od_agreeing an_agreeing : Option Addr} {sl_agreeing : Array (Option Value)}
    {f_can_hold : Addr} {oc_can_hold kV_can_hold dc_can_hold pm_can_hold cd_can_hold ct_can_hold : Value} {od_can_hold an_can_hold : Option Addr} {sl_can_hold : Array (Option Value)}
    {f__is_shown : Addr} {oc__is_shown kV__is_shown dc__is_shown pm__is_shown cd__is_shown ct__is_shown : Value} {od__is_shown an__is_shown : Option Addr} {sl__is_shown : Array (Option Value)}
    {f__is_right : Addr} {oc__is_right kV__is_right dc__is_right pm__is_right cd__is_right ct__is_right : Value} {od__is_right an__is_right : Option Addr} {sl__is_right : Array (Option Value)}
    {f__next_name : Addr} {oc__next_name kV__next_name dc__next_name pm__next_name cd__next_name ct__next_name : Value} {od__next_name an__next_name : Option Addr} {sl__next_name : Array (Option Value)}
    {f__cases : Addr} {oc__cases kV__cases dc__cases pm__cases cd__cases ct__cases : Value} {od__cases an__cases : Option Addr} {sl__cases : Array (Option Value)}
    {f__explored : Addr} {oc__explored kV__explored dc__explored pm__explored cd__explored ct__explored : Value} {od__explored an__explored : Option Addr} {sl__explored : Array (Option Value)}
    {f_MC_certificate : Addr} {oc_MC_certificate kV_MC_certificate dc_MC_certificate pm_MC_certificate cd_MC_certificate ct_MC_certificate : Value} {od_MC_certificate an_MC_certificate : Option Addr} {sl_MC_certificate : Array (Option Value)}
    {f_MC_counterexample : Addr} {oc_MC_counterexample kV_MC_counterexample dc_MC_counterexample pm_MC_counterexample cd_MC_counterexample ct_MC_counterexample : Value} {od_MC_counterexample an_MC_counterexample : Option Addr} {sl_MC_counterexample : Array (Option Value)}
    {f_MC_accepts : Addr} {oc_MC_accepts kV_MC_accepts dc_MC_accepts pm_MC_accepts cd_MC_accepts ct_MC_accepts : Value} {od_MC_accepts an_MC_accepts : Option Addr} {sl_MC_accepts : Array (Option Value)}
    {f__law_source : Addr} {oc__law_source kV__law_source dc__law_source pm__law_source cd__law_source ct__law_source : Value} {od__law_source an__law_source : Option Addr} {sl__law_source : Array (Option Value)}
    {f__law_draw : Addr} {oc__law_draw kV__law_draw dc__law_draw pm__law_draw cd__law_draw ct__law_draw : Value} {od__law_draw an__law_draw : Option Addr} {sl__law_draw : Array (Option Value)}
    {f__law_some : Addr} {oc__law_some kV__law_some dc__law_some pm__law_some cd__law_some ct__law_some : Value} {od__law_some an__law_some : Option Addr} {sl__law_some : Array (Option Value)}
    {f__law_is_int : Addr} {oc__law_is_int kV__law_is_int dc__law_is_int pm__law_is_int cd__law_is_int ct__law_is_int : Value} {od__law_is_int an__law_is_int : Option Addr} {sl__law_is_int : Array (Option Value)}
    {f__law_can_hold : Addr} {oc__law_can_hold kV__law_can_hold dc__law_can_hold pm__law_can_hold cd__law_can_hold ct__law_can_hold : Value} {od__law_can_hold an__law_can_hold : Option Addr} {sl__law_can_hold : Array (Option Value)}
    {f__law_rows_show : Addr} {oc__law_rows_show kV__law_rows_show dc__law_rows_show pm__law_rows_show cd__law_rows_show ct__law_rows_show : Value} {od__law_rows_show an__law_rows_show : Option Addr} {sl__law_rows_show : Array (Option Value)}
    {f__law_all_rows : Addr} {oc__law_all_rows kV__law_all_rows dc__law_all_rows pm__law_all_rows cd__law_all_rows ct__law_all_rows : Value} {od__law_all_rows an__law_all_rows : Option Addr} {sl__law_all_rows : Array (Option Value)}
    {f__law_table : Addr} {oc__law_table kV__law_table dc__law_table pm__law_table cd__law_table ct__law_table : Value} {od__law_table an__law_table : Option Addr} {sl__law_table : Array (Option Value)}
    {f__law_values : Addr} {oc__law_values kV__law_values dc__law_values pm__law_values cd__law_values ct__law_values : Value} {od__law_values an__law_values : Option Addr} {sl__law_values : Array (Option Value)}
    {f__law_fits : Addr} {oc__law_fits kV__law_fits dc__law_fits pm__law_fits cd__law_fits ct__law_fits : Value} {od__law_fits an__law_fits : Option Addr} {sl__law_fits : Array (Option Value)}
    {f__law_solutions : Addr} {oc__law_solutions kV__law_solutions dc__law_solutions pm__law_solutions cd__law_solutions ct__law_solutions : Value} {od__law_solutions an__law_solutions : Option Addr} {sl__law_solutions : Array (Option Value)}
    {f__law_question : Addr} {oc__law_question kV__law_question dc__law_question pm__law_question cd__law_question ct__law_question : Value} {od__law_question an__law_question : Option Addr} {sl__law_question : Array (Option Value)}
    {f__law_order : Addr} {oc__law_order kV__law_order dc__law_order pm__law_order cd__law_order ct__law_order : Value} {od__law_order an__law_order : Option Addr} {sl__law_order : Array (Option Value)}
    {f__law_made : Addr} {oc__law_made kV__law_made dc__law_made pm__law_made cd__law_made ct__law_made : Value} {od__law_made an__law_made : Option Addr} {sl__law_made : Array (Option Value)}
    {f__law_leaf : Addr} {oc__law_leaf kV__law_leaf dc__law_leaf pm__law_leaf cd__law_leaf ct__law_leaf : Value} {od__law_leaf an__law_leaf : Option Addr} {sl__law_leaf : Array (Option Value)}
    {f__law_spoilt : Addr} {oc__law_spoilt kV__law_spoilt dc__law_spoilt pm__law_spoilt cd__law_spoilt ct__law_spoilt : Value} {od__law_spoilt an__law_spoilt : Option Addr} {sl__law_spoilt : Array (Option Value)}
    {f__law_changed : Addr} {oc__law_changed kV__law_changed dc__law_changed pm__law_changed cd__law_changed ct__law_changed : Value} {od__law_changed an__law_changed : Option Addr} {sl__law_changed : Array (Option Value)}
    {f__law_grown : Addr} {oc__law_grown kV__law_grown dc__law_grown pm__law_grown cd__law_grown ct__law_grown : Value} {od__law_grown an__law_grown : Option Addr} {sl__law_grown : Array (Option Value)}
    {f__law_is_tree : Addr} {oc__law_is_tree kV__law_is_tree dc__law_is_tree pm__law_is_tree cd__law_is_tree ct__law_is_tree : Value} {od__law_is_tree an__law_is_tree : Option Addr} {sl__law_is_tree : Array (Option Value)}
    {f__law_breaks : Addr} {oc__law_breaks kV__law_breaks dc__law_breaks pm__law_breaks cd__law_breaks ct__law_breaks : Value} {od__law_breaks an__law_breaks : Option Addr} {sl__law_breaks : Array (Option Value)}
    {f_law : Addr} {oc_law kV_law dc_law pm_law cd_law ct_law : Value} {od_law an_law : Option Addr} {sl_law : Array (Option Value)}
    (aC : PySem.W.nsIn K mainGlobals "Rows" = some (some (.ref C)))
    (pgC : PySem.W.plainGet K C Str.empty = true)
    (hdC : PySem.W.hasDictIn K C = true)
    (poC : PySem.W.plainOver K C = true)
    (saC : PySem.W.findIn K (.ref C) "__setattr__" = some (some (.builtin "object.__setattr__")))
    (mkC : PySem.W.makesIn K C = true)
    (kcC : PySem.W.keepIn K (.ref C) = true)
    (iniC : PySem.W.findIn K (.ref C) "__init__" = some (some (.builtin "object.__init__")))
    (z_VALUES : PySem.W.nsIn K mainGlobals "VALUES" = some (some (.ref tv_VALUES)))
    (l_VALUES : K.lookup tv_VALUES = some ⟨.type "tuple", od_VALUES, .seq #[.int 0 t0_VALUES, .int 1 t1_VALUES, .int 2 t2_VALUES] n_VALUES, sl_VALUES⟩)
    (a_agreeing : PySem.W.nsIn K mainGlobals "agreeing" = some (some (.ref f_agreeing)))
    (l_agreeing : K.lookup f_agreeing = some ⟨oc_agreeing, od_agreeing, .func (PySem.W.fnOf "agreeing" "agreeing" (defArgs s_agreeing) (defBody s_agreeing) (defScope s_agreeing) .none kV_agreeing dc_agreeing pm_agreeing an_agreeing cd_agreeing ct_agreeing), sl_agreeing⟩)
    (c_agreeing : PySem.W.codeIn K cd_agreeing "agreeing" = true)
    (k_agreeing : PySem.W.keepIn K (.ref f_agreeing) = true)
    (a_can_hold : PySem.W.nsIn K mainGlobals "can_hold" = some (some (.ref f_can_hold)))
    (l_can_hold : K.lookup f_can_hold = some ⟨oc_can_hold, od_can_hold, .func (PySem.W.fnOf "can_hold" "can_hold" (defArgs s_can_hold) (defBody s_can_hold) (defScope s_can_hold) .none kV_can_hold dc_can_hold pm_can_hold an_can_hold cd_can_hold ct_can_hold), sl_can_hold⟩)
    (c_can_hold : PySem.W.codeIn K cd_can_hold "can_hold" = true)
    (k_can_hold : PySem.W.keepIn K (.ref f_can_hold) = true)
    (a__is_shown : PySem.W.nsIn K mainGlobals "_is_shown" = some (some (.ref f__is_shown)))
    (l__is_shown : K.lookup f__is_shown = some ⟨oc__is_shown, od__is_shown, .func (PySem.W.fnOf "_is_shown" "_is_shown" (defArgs s__is_shown) (defBody s__is_shown) (defScope s__is_shown) .none kV__is_shown dc__is_shown pm__is_shown an__is_shown cd__is_shown ct__is_shown), sl__is_shown⟩)
    (c__is_shown : PySem.W.codeIn K cd__is_shown "_is_shown" = true)
    (k__is_shown : PySem.W.keepIn K (.ref f__is_shown) = true)
    (a__is_right : PySem.W.nsIn K mainGlobals "_is_right" = some (some (.ref f__is_right)))
    (l__is_right : K.lookup f__is_right = some ⟨oc__is_right, od__is_right, .func (PySem.W.fnOf "_is_right" "_is_right" (defArgs s__is_right) (defBody s__is_right) (defScope s__is_right) .none kV__is_right dc__is_right pm__is_right an__is_right cd__is_right ct__is_right), sl__is_right⟩)
    (c__is_right : PySem.W.codeIn K cd__is_right "_is_right" = true)
    (k__is_right : PySem.W.keepIn K (.ref f__is_right) = true)
    (a__next_name : PySem.W.nsIn K mainGlobals "_next_name" = some (some (.ref f__next_name)))
    (l__next_name : K.lookup f__next_name = some ⟨oc__next_name, od__next_name, .func (PySem.W.fnOf "_next_name" "_next_name" (defArgs s__next_name) (defBody s__next_name) (defScope s__next_name) .none kV__next_name dc__next_name pm__next_name an__next_name cd__next_name ct__next_name), sl__next_name⟩)
    (c__next_name : PySem.W.codeIn K cd__next_name "_next_name" = true)
    (k__next_name : PySem.W.keepIn K (.ref f__next_name) = true)
    (a__cases : PySem.W.nsIn K mainGlobals "_cases" = some (some (.ref f__cases)))
    (l__cases : K.lookup f__cases = some ⟨oc__cases, od__cases, .func (PySem.W.fnOf "_cases" "_cases" (defArgs s__cases) (defBody s__cases) (defScope s__cases) .none kV__cases dc__cases pm__cases an__cases cd__cases ct__cases), sl__cases⟩)
    (c__cases : PySem.W.codeIn K cd__cases "_cases" = true)
    (k__cases : PySem.W.keepIn K (.ref f__cases) = true)
    (a__explored : PySem.W.nsIn K mainGlobals "_explored" = some (some (.ref f__explored)))
    (l__explored : K.lookup f__explored = some ⟨oc__explored, od__explored, .func (PySem.W.fnOf "_explored" "_explored" (defArgs s__explored) (defBody s__explored) (defScope s__explored) .none kV__explored dc__explored pm__explored an__explored cd__explored ct__explored), sl__explored⟩)
    (c__explored : PySem.W.codeIn K cd__explored "_explored" = true)
    (k__explored : PySem.W.keepIn K (.ref f__explored) = true)
    (a_MC_certificate : PySem.W.findIn K (.ref C) "certificate" = some (some (.ref f_MC_certificate)))
    (l_MC_certificate : K.lookup f_MC_certificate = some ⟨oc_MC_certificate, od_MC_certificate, .func (PySem.W.fnOf "certificate" "Rows.certificate" (defArgs s_Rows_certificate) (defBody s_Rows_certificate) (defScope s_Rows_certificate) .none kV_MC_certificate dc_MC_certificate pm_MC_certificate an_MC_certificate cd_MC_certificate ct_MC_certificate), sl_MC_certificate⟩)
    (c_MC_certificate : PySem.W.codeIn K cd_MC_certificate "Rows.certificate" = true)
    (k_MC_certificate : PySem.W.keepIn K (.ref f_MC_certificate) = true)
    (i_MC_certificate : PySem.W.isFn K (.ref f_MC_certificate) = true)
    (a_MC_counterexample : PySem.W.findIn K (.ref C) "counterexample" = some (some (.ref f_MC_counterexample)))
    (l_MC_counterexample : K.lookup f_MC_counterexample = some ⟨oc_MC_counterexample, od_MC_counterexample, .func (PySem.W.fnOf "counterexample" "Rows.counterexample" (defArgs s_Rows_counterexample) (defBody s_Rows_counterexample) (defScope s_Rows_counterexample) .none kV_MC_counterexample dc_MC_counterexample pm_MC_counterexample an_MC_counterexample cd_MC_counterexample ct_MC_counterexample), sl_MC_counterexample⟩)
    (c_MC_counterexample : PySem.W.codeIn K cd_MC_counterexample "Rows.counterexample" = true)
    (k_MC_counterexample : PySem.W.keepIn K (.ref f_MC_counterexample) = true)
    (i_MC_counterexample : PySem.W.isFn K (.ref f_MC_counterexample) = true)
    (a_MC_accepts : PySem.W.findIn K (.ref C) "accepts" = some (some (.ref f_MC_accepts)))
    (l_MC_accepts : K.lookup f_MC_accepts = some ⟨oc_MC_accepts, od_MC_accepts, .func (PySem.W.fnOf "accepts" "Rows.accepts" (defArgs s_Rows_accepts) (defBody s_Rows_accepts) (defScope s_Rows_accepts) .none kV_MC_accepts dc_MC_accepts pm_MC_accepts an_MC_accepts cd_MC_accepts ct_MC_accepts), sl_MC_accepts⟩)
    (c_MC_accepts : PySem.W.codeIn K cd_MC_accepts "Rows.accepts" = true)
    (k_MC_accepts : PySem.W.keepIn K (.ref f_MC_accepts) = true)
    (i_MC_accepts : PySem.W.isFn K (.ref f_MC_accepts) = true)
    (a__law_source : PySem.W.nsIn K mainGlobals "_law_source" = some (some (.ref f__law_source)))
    (l__law_source : K.lookup f__law_source = some ⟨oc__law_source, od__law_source, .func (PySem.W.fnOf "_law_source" "_law_source" (defArgs s__law_source) (defBody s__law_source) (defScope s__law_source) .none kV__law_source dc__law_source pm__law_source an__law_source cd__law_source ct__law_source), sl__law_source⟩)
    (c__law_source : PySem.W.codeIn K cd__law_source "_law_source" = true)
    (k__law_source : PySem.W.keepIn K (.ref f__law_source) = true)
    (a__law_draw : PySem.W.nsIn K mainGlobals "_law_draw" = some (some (.ref f__law_draw)))
    (l__law_draw : K.lookup f__law_draw = some ⟨oc__law_draw, od__law_draw, .func (PySem.W.fnOf "_law_draw" "_law_draw" (defArgs s__law_draw) (defBody s__law_draw) (defScope s__law_draw) .none kV__law_draw dc__law_draw pm__law_draw an__law_draw cd__law_draw ct__law_draw), sl__law_draw⟩)
    (c__law_draw : PySem.W.codeIn K cd__law_draw "_law_draw" = true)
    (k__law_draw : PySem.W.keepIn K (.ref f__law_draw) = true)
    (a__law_some : PySem.W.nsIn K mainGlobals "_law_some" = some (some (.ref f__law_some)))
    (l__law_some : K.lookup f__law_some = some ⟨oc__law_some, od__law_some, .func (PySem.W.fnOf "_law_some" "_law_some" (defArgs s__law_some) (defBody s__law_some) (defScope s__law_some) .none kV__law_some dc__law_some pm__law_some an__law_some cd__law_some ct__law_some), sl__law_some⟩)
    (c__law_some : PySem.W.codeIn K cd__law_some "_law_some" = true)
    (k__law_some : PySem.W.keepIn K (.ref f__law_some) = true)
    (a__law_is_int : PySem.W.nsIn K mainGlobals "_law_is_int" = some (some (.ref f__law_is_int)))
    (l__law_is_int : K.lookup f__law_is_int = some ⟨oc__law_is_int, od__law_is_int, .func (PySem.W.fnOf "_law_is_int" "_law_is_int" (defArgs s__law_is_int) (defBody s__law_is_int) (defScope s__law_is_int) .none kV__law_is_int dc__law_is_int pm__law_is_int an__law_is_int cd__law_is_int ct__law_is_int), sl__law_is_int⟩)
    (c__law_is_int : PySem.W.codeIn K cd__law_is_int "_law_is_int" = true)
    (k__law_is_int : PySem.W.keepIn K (.ref f__law_is_int) = true)
    (a__law_can_hold : PySem.W.nsIn K mainGlobals "_law_can_hold" = some (some (.ref f__law_can_hold)))
    (l__law_can_hold : K.lookup f__law_can_hold = some ⟨oc__law_can_hold, od__law_can_hold, .func (PySem.W.fnOf "_law_can_hold" "_law_can_hold" (defArgs s__law_can_hold) (defBody s__law_can_hold) (defScope s__law_can_hold) .none kV__law_can_hold dc__law_can_hold pm__law_can_hold an__law_can_hold cd__law_can_hold ct__law_can_hold), sl__law_can_hold⟩)
    (c__law_can_hold : PySem.W.codeIn K cd__law_can_hold "_law_can_hold" = true)
    (k__law_can_hold : PySem.W.keepIn K (.ref f__law_can_hold) = true)
    (a__law_rows_show : PySem.W.nsIn K mainGlobals "_law_rows_show" = some (some (.ref f__law_rows_show)))
    (l__law_rows_show : K.lookup f__law_rows_show = some ⟨oc__law_rows_show, od__law_rows_show, .func (PySem.W.fnOf "_law_rows_show" "_law_rows_show" (defArgs s__law_rows_show) (defBody s__law_rows_show) (defScope s__law_rows_show) .none kV__law_rows_show dc__law_rows_show pm__law_rows_show an__law_rows_show cd__law_rows_show ct__law_rows_show), sl__law_rows_show⟩)
    (c__law_rows_show : PySem.W.codeIn K cd__law_rows_show "_law_rows_show" = true)
    (k__law_rows_show : PySem.W.keepIn K (.ref f__law_rows_show) = true)
    (a__law_all_rows : PySem.W.nsIn K mainGlobals "_law_all_rows" = some (some (.ref f__law_all_rows)))
    (l__law_all_rows : K.lookup f__law_all_rows = some ⟨oc__law_all_rows, od__law_all_rows, .func (PySem.W.fnOf "_law_all_rows" "_law_all_rows" (defArgs s__law_all_rows) (defBody s__law_all_rows) (defScope s__law_all_rows) .none kV__law_all_rows dc__law_all_rows pm__law_all_rows an__law_all_rows cd__law_all_rows ct__law_all_rows), sl__law_all_rows⟩)
    (c__law_all_rows : PySem.W.codeIn K cd__law_all_rows "_law_all_rows" = true)
    (k__law_all_rows : PySem.W.keepIn K (.ref f__law_all_rows) = true)
    (a__law_table : PySem.W.nsIn K mainGlobals "_law_table" = some (some (.ref f__law_table)))
    (l__law_table : K.lookup f__law_table = some ⟨oc__law_table, od__law_table, .func (PySem.W.fnOf "_law_table" "_law_table" (defArgs s__law_table) (defBody s__law_table) (defScope s__law_table) .none kV__law_table dc__law_table pm__law_table an__law_table cd__law_table ct__law_table), sl__law_table⟩)
    (c__law_table : PySem.W.codeIn K cd__law_table "_law_table" = true)
    (k__law_table : PySem.W.keepIn K (.ref f__law_table) = true)
    (a__law_values : PySem.W.nsIn K mainGlobals "_law_values" = some (some (.ref f__law_values)))
    (l__law_values : K.lookup f__law_values = some ⟨oc__law_values, od__law_values, .func (PySem.W.fnOf "_law_values" "_law_values" (defArgs s__law_values) (defBody s__law_values) (defScope s__law_values) .none kV__law_values dc__law_values pm__law_values an__law_values cd__law_values ct__law_values), sl__law_values⟩)
    (c__law_values : PySem.W.codeIn K cd__law_values "_law_values" = true)
    (k__law_values : PySem.W.keepIn K (.ref f__law_values) = true)
    (a__law_fits : PySem.W.nsIn K mainGlobals "_law_fits" = some (some (.ref f__law_fits)))
    (l__law_fits : K.lookup f__law_fits = some ⟨oc__law_fits, od__law_fits, .func (PySem.W.fnOf "_law_fits" "_law_fits" (defArgs s__law_fits) (defBody s__law_fits) (defScope s__law_fits) .none kV__law_fits dc__law_fits pm__law_fits an__law_fits cd__law_fits ct__law_fits), sl__law_fits⟩)
    (c__law_fits : PySem.W.codeIn K cd__law_fits "_law_fits" = true)
    (k__law_fits : PySem.W.keepIn K (.ref f__law_fits) = true)
    (a__law_solutions : PySem.W.nsIn K mainGlobals "_law_solutions" = some (some (.ref f__law_solutions)))
    (l__law_solutions : K.lookup f__law_solutions = some ⟨oc__law_solutions, od__law_solutions, .func (PySem.W.fnOf "_law_solutions" "_law_solutions" (defArgs s__law_solutions) (defBody s__law_solutions) (defScope s__law_solutions) .none kV__law_solutions dc__law_solutions pm__law_solutions an__law_solutions cd__law_solutions ct__law_solutions), sl__law_solutions⟩)
    (c__law_solutions : PySem.W.codeIn K cd__law_solutions "_law_solutions" = true)
    (k__law_solutions : PySem.W.keepIn K (.ref f__law_solutions) = true)
    (a__law_question : PySem.W.nsIn K mainGlobals "_law_question" = some (some (.ref f__law_question)))
    (l__law_question : K.lookup f__law_question = some ⟨oc__law_question, od__law_question, .func (PySem.W.fnOf "_law_question" "_law_question" (defArgs s__law_question) (defBody s__law_question) (defScope s__law_question) .none kV__law_question dc__law_question pm__law_question an__law_question cd__law_question ct__law_question), sl__law_question⟩)
    (c__law_question : PySem.W.codeIn K cd__law_question "_law_question" = true)
    (k__law_question : PySem.W.keepIn K (.ref f__law_question) = true)
    (a__law_order : PySem.W.nsIn K mainGlobals "_law_order" = some (some (.ref f__law_order)))
    (l__law_order : K.lookup f__law_order = some ⟨oc__law_order, od__law_order, .func (PySem.W.fnOf "_law_order" "_law_order" (defArgs s__law_order) (defBody s__law_order) (defScope s__law_order) .none kV__law_order dc__law_order pm__law_order an__law_order cd__law_order ct__law_order), sl__law_order⟩)
    (c__law_order : PySem.W.codeIn K cd__law_order "_law_order" = true)
    (k__law_order : PySem.W.keepIn K (.ref f__law_order) = true)
    (a__law_made : PySem.W.nsIn K mainGlobals "_law_made" = some (some (.ref f__law_made)))
    (l__law_made : K.lookup f__law_made = some ⟨oc__law_made, od__law_made, .func (PySem.W.fnOf "_law_made" "_law_made" (defArgs s__law_made) (defBody s__law_made) (defScope s__law_made) .none kV__law_made dc__law_made pm__law_made an__law_made cd__law_made ct__law_made), sl__law_made⟩)
    (c__law_made : PySem.W.codeIn K cd__law_made "_law_made" = true)
    (k__law_made : PySem.W.keepIn K (.ref f__law_made) = true)
    (a__law_leaf : PySem.W.nsIn K mainGlobals "_law_leaf" = some (some (.ref f__law_leaf)))
    (l__law_leaf : K.lookup f__law_leaf = some ⟨oc__law_leaf, od__law_leaf, .func (PySem.W.fnOf "_law_leaf" "_law_leaf" (defArgs s__law_leaf) (defBody s__law_leaf) (defScope s__law_leaf) .none kV__law_leaf dc__law_leaf pm__law_leaf an__law_leaf cd__law_leaf ct__law_leaf), sl__law_leaf⟩)
    (c__law_leaf : PySem.W.codeIn K cd__law_leaf "_law_leaf" = true)
    (k__law_leaf : PySem.W.keepIn K (.ref f__law_leaf) = true)
    (a__law_spoilt : PySem.W.nsIn K mainGlobals "_law_spoilt" = some (some (.ref f__law_spoilt)))
    (l__law_spoilt : K.lookup f__law_spoilt = some ⟨oc__law_spoilt, od__law_spoilt, .func (PySem.W.fnOf "_law_spoilt" "_law_spoilt" (defArgs s__law_spoilt) (defBody s__law_spoilt) (defScope s__law_spoilt) .none kV__law_spoilt dc__law_spoilt pm__law_spoilt an__law_spoilt cd__law_spoilt ct__law_spoilt), sl__law_spoilt⟩)
    (c__law_spoilt : PySem.W.codeIn K cd__law_spoilt "_law_spoilt" = true)
    (k__law_spoilt : PySem.W.keepIn K (.ref f__law_spoilt) = true)
    (a__law_changed : PySem.W.nsIn K mainGlobals "_law_changed" = some (some (.ref f__law_changed)))
    (l__law_changed : K.lookup f__law_changed = some ⟨oc__law_changed, od__law_changed, .func (PySem.W.fnOf "_law_changed" "_law_changed" (defArgs s__law_changed) (defBody s__law_changed) (defScope s__law_changed) .none kV__law_changed dc__law_changed pm__law_changed an__law_changed cd__law_changed ct__law_changed), sl__law_changed⟩)
    (c__law_changed : PySem.W.codeIn K cd__law_changed "_law_changed" = true)
    (k__law_changed : PySem.W.keepIn K (.ref f__law_changed) = true)
    (a__law_grown : PySem.W.nsIn K mainGlobals "_law_grown" = some (some (.ref f__law_grown)))
    (l__law_grown : K.lookup f__law_grown = some ⟨oc__law_grown, od__law_grown, .func (PySem.W.fnOf "_law_grown" "_law_grown" (defArgs s__law_grown) (defBody s__law_grown) (defScope s__law_grown) .none kV__law_grown dc__law_grown pm__law_grown an__law_grown cd__law_grown ct__law_grown), sl__law_grown⟩)
    (c__law_grown : PySem.W.codeIn K cd__law_grown "_law_grown" = true)
    (k__law_grown : PySem.W.keepIn K (.ref f__law_grown) = true)
    (a__law_is_tree : PySem.W.nsIn K mainGlobals "_law_is_tree" = some (some (.ref f__law_is_tree)))
    (l__law_is_tree : K.lookup f__law_is_tree = some ⟨oc__law_is_tree, od__law_is_tree, .func (PySem.W.fnOf "_law_is_tree" "_law_is_tree" (defArgs s__law_is_tree) (defBody s__law_is_tree) (defScope s__law_is_tree) .none kV__law_is_tree dc__law_is_tree pm__law_is_tree an__law_is_tree cd__law_is_tree ct__law_is_tree), sl__law_is_tree⟩)
    (c__law_is_tree : PySem.W.codeIn K cd__law_is_tree "_law_is_tree" = true)
    (k__law_is_tree : PySem.W.keepIn K (.ref f__law_is_tree) = true)
    (a__law_breaks : PySem.W.nsIn K mainGlobals "_law_breaks" = some (some (.ref f__law_breaks)))
    (l__law_breaks : K.lookup f__law_breaks = some ⟨oc__law_breaks, od__law_breaks, .func (PySem.W.fnOf "_law_breaks" "_law_breaks" (defArgs s__law_breaks) (defBody s__law_breaks) (defScope s__law_breaks) .none kV__law_breaks dc__law_breaks pm__law_breaks an__law_breaks cd__law_breaks ct__law_breaks), sl__law_breaks⟩)
    (c__law_breaks : PySem.W.codeIn K cd__law_breaks "_law_breaks" = true)
    (k__law_breaks : PySem.W.keepIn K (.ref f__law_breaks) = true)
    (a_law : PySem.W.nsIn K mainGlobals "law" = some (some (.ref f_law)))
    (l_law : K.lookup f_law = some ⟨oc_law, od_law, .func (PySem.W.fnOf "law" "law" (defArgs s_law) (defBody s_law) (defScope s_law) .none kV_law dc_law pm_law an_law cd_law ct_law), sl_law⟩)
    (c_law : PySem.W.codeIn K cd_law "law" = true)
    (k_law : PySem.W.keepIn K (.ref f_law) = true)
    (z_all : PySem.W.nsIn K mainGlobals "all" = some none)
    (z_tuple : PySem.W.nsIn K mainGlobals "tuple" = some none)
    (z_isinstance : PySem.W.nsIn K mainGlobals "isinstance" = some none)
    (z_int : PySem.W.nsIn K mainGlobals "int" = some none)
    (z_len : PySem.W.nsIn K mainGlobals "len" = some none)
    (z_list : PySem.W.nsIn K mainGlobals "list" = some none)
    (z_zip : PySem.W.nsIn K mainGlobals "zip" = some none)
    (z_min : PySem.W.nsIn K mainGlobals "min" = some none)
    (z_enumerate : PySem.W.nsIn K mainGlobals "enumerate" = some none)
    (z_bool : PySem.W.nsIn K mainGlobals "bool" = some none)
    (z_range : PySem.W.nsIn K mainGlobals "range" = some none)
    (z_max : PySem.W.nsIn K mainGlobals "max" = some none)
    (z_str : PySem.W.nsIn K mainGlobals "str" = some none)
    (z_dict : PySem.W.nsIn K mainGlobals "dict" = some none)
    : ∃ fd : FuncData, (∀ (s : Shared) (v : Value), BindsTo s fd ⟨[v], []⟩ [("_law_script", v)]) ∧ ∀ base : Heap, K.In base → base.Ns mainGlobals mg → FnOk l.prog w K mg base CX0 12 fa fd ["_law_script"] (spLaw K) := by
  have e := hfa.symm.trans (PySem.W.mg_of X G a_law)
  cases e
  have g_Rows := PySem.W.mg_of X G aC
  have clC : Cls K C := ⟨pgC, hdC, poC, saC⟩
  have B_Rows : Mk0.Bare K mg "Rows" C := ⟨mkC, iniC, kcC, g_Rows⟩
  have m_VALUES := PySem.W.mg_of X G z_VALUES
  have t_VALUES : ∀ H : Hp, SqT K H tv_VALUES [.int 0, .int 1, .int 2] := fun H => .inr ⟨_, #[.int 0 t0_VALUES, .int 1 t1_VALUES, .int 2 t2_VALUES], _, l_VALUES, rfl, rfl, (by show 3 ≤ sizeLine; exact sz (by decide)), (.cons ⟨t0_VALUES, rfl⟩ (.cons ⟨t1_VALUES, rfl⟩ (.cons ⟨t2_VALUES, rfl⟩ .nil)))⟩
  have F_agreeing := fun_mk (x := "agreeing") (qual := "agreeing") (st := s_agreeing) l_agreeing c_agreeing k_agreeing
  have b_agreeing := F_agreeing.binds (ps := ["constraint", "decided"]) fun _ _ _ _ _ _ us hl => match us, hl with | [_, _], _ => rfl
  have F_can_hold := fun_mk (x := "can_hold") (qual := "can_hold") (st := s_can_hold) l_can_hold c_can_hold k_can_hold
  have b_can_hold := F_can_hold.binds (ps := ["constraint", "decided"]) fun _ _ _ _ _ _ us hl => match us, hl with | [_, _], _ => rfl
  have F__is_shown := fun_mk (x := "_is_shown") (qual := "_is_shown") (st := s__is_shown) l__is_shown c__is_shown k__is_shown
  have b__is_shown := F__is_shown.binds (ps := ["constraint", "decided"]) fun _ _ _ _ _ _ us hl => match us, hl with | [_, _], _ => rfl
  have F__is_right := fun_mk (x := "_is_right") (qual := "_is_right") (st := s__is_right) l__is_right c__is_right k__is_right
  have b__is_right := F__is_right.binds (ps := ["theory", "constraint", "tree", "decided"]) fun _ _ _ _ _ _ us hl => match us, hl with | [_, _, _, _], _ => rfl
  have F__next_name := fun_mk (x := "_next_name") (qual := "_next_name") (st := s__next_name) l__next_name c__next_name k__next_name
  have b__next_name := F__next_name.binds (ps := ["names", "tables", "constraint"]) fun _ _ _ _ _ _ us hl => match us, hl with | [_, _, _], _ => rfl
  have F__cases := fun_mk (x := "_cases") (qual := "_cases") (st := s__cases) l__cases c__cases k__cases
  have b__cases := F__cases.binds (ps := ["names", "tables", "constraint", "decided"]) fun _ _ _ _ _ _ us hl => match us, hl with | [_, _, _, _], _ => rfl
  have F__explored := fun_mk (x := "_explored") (qual := "_explored") (st := s__explored) l__explored c__explored k__explored
  have b__explored := F__explored.binds (ps := ["theory", "constraint"]) fun _ _ _ _ _ _ us hl => match us, hl with | [_, _], _ => rfl
  have F_MC_certificate := fun_mk (x := "certificate") (qual := "Rows.certificate") (st := s_Rows_certificate) l_MC_certificate c_MC_certificate k_MC_certificate
  have b_MC_certificate := F_MC_certificate.binds (ps := ["self", "theory", "constraint"]) fun _ _ _ _ _ _ us hl => match us, hl with | [_, _, _], _ => rfl
  have F_MC_counterexample := fun_mk (x := "counterexample") (qual := "Rows.counterexample") (st := s_Rows_counterexample) l_MC_counterexample c_MC_counterexample k_MC_counterexample
  have b_MC_counterexample := F_MC_counterexample.binds (ps := ["self", "theory", "constraint"]) fun _ _ _ _ _ _ us hl => match us, hl with | [_, _, _], _ => rfl
  have F_MC_accepts := fun_mk (x := "accepts") (qual := "Rows.accepts") (st := s_Rows_accepts) l_MC_accepts c_MC_accepts k_MC_accepts
  have b_MC_accepts := F_MC_accepts.binds (ps := ["self", "theory", "constraint", "certificate"]) fun _ _ _ _ _ _ us hl => match us, hl with | [_, _, _, _], _ => rfl
  have F__law_source := fun_mk (x := "_law_source") (qual := "_law_source") (st := s__law_source) l__law_source c__law_source k__law_source
  have b__law_source := F__law_source.binds (ps := ["_law_script", "_law_k"]) fun _ _ _ _ _ _ us hl => match us, hl with | [_, _], _ => rfl
  have F__law_draw := fun_mk (x := "_law_draw") (qual := "_law_draw") (st := s__law_draw) l__law_draw c__law_draw k__law_draw
  have b__law_draw := F__law_draw.binds (ps := ["_law_source_here", "_law_limit"]) fun _ _ _ _ _ _ us hl => match us, hl with | [_, _], _ => rfl
  have F__law_some := fun_mk (x := "_law_some") (qual := "_law_some") (st := s__law_some) l__law_some c__law_some k__law_some
  have b__law_some := F__law_some.binds (ps := ["_law_source_here", "_law_names", "_law_most"]) fun _ _ _ _ _ _ us hl => match us, hl with | [_, _, _], _ => rfl
  have F__law_is_int := fun_mk (x := "_law_is_int") (qual := "_law_is_int") (st := s__law_is_int) l__law_is_int c__law_is_int k__law_is_int
  have b__law_is_int := F__law_is_int.binds (ps := ["_law_value"]) fun _ _ _ _ _ _ us hl => match us, hl with | [_], _ => rfl
  have F__law_can_hold := fun_mk (x := "_law_can_hold") (qual := "_law_can_hold") (st := s__law_can_hold) l__law_can_hold c__law_can_hold k__law_can_hold
  have b__law_can_hold := F__law_can_hold.binds (ps := ["_law_table_here", "_law_decided"]) fun _ _ _ _ _ _ us hl => match us, hl with | [_, _], _ => rfl
  have F__law_rows_show := fun_mk (x := "_law_rows_show") (qual := "_law_rows_show") (st := s__law_rows_show) l__law_rows_show c__law_rows_show k__law_rows_show
  have b__law_rows_show := F__law_rows_show.binds (ps := ["_law_theory", "_law_constraint", "_law_tree", "_law_decided"]) fun _ _ _ _ _ _ us hl => match us, hl with | [_, _, _, _], _ => rfl
  have F__law_all_rows := fun_mk (x := "_law_all_rows") (qual := "_law_all_rows") (st := s__law_all_rows) l__law_all_rows c__law_all_rows k__law_all_rows
  have b__law_all_rows := F__law_all_rows.binds (ps := ["_law_count"]) fun _ _ _ _ _ _ us hl => match us, hl with | [_], _ => rfl
  have F__law_table := fun_mk (x := "_law_table") (qual := "_law_table") (st := s__law_table) l__law_table c__law_table k__law_table
  have b__law_table := F__law_table.binds (ps := ["_law_source_here", "_law_names"]) fun _ _ _ _ _ _ us hl => match us, hl with | [_, _], _ => rfl
  have F__law_values := fun_mk (x := "_law_values") (qual := "_law_values") (st := s__law_values) l__law_values c__law_values k__law_values
  have b__law_values := F__law_values.binds (ps := ["_law_names", "_law_row"]) fun _ _ _ _ _ _ us hl => match us, hl with | [_, _], _ => rfl
  have F__law_fits := fun_mk (x := "_law_fits") (qual := "_law_fits") (st := s__law_fits) l__law_fits c__law_fits k__law_fits
  have b__law_fits := F__law_fits.binds (ps := ["_law_table_here", "_law_values_here"]) fun _ _ _ _ _ _ us hl => match us, hl with | [_, _], _ => rfl
  have F__law_solutions := fun_mk (x := "_law_solutions") (qual := "_law_solutions") (st := s__law_solutions) l__law_solutions c__law_solutions k__law_solutions
  have b__law_solutions := F__law_solutions.binds (ps := ["_law_theory"]) fun _ _ _ _ _ _ us hl => match us, hl with | [_], _ => rfl
  have F__law_question := fun_mk (x := "_law_question") (qual := "_law_question") (st := s__law_question) l__law_question c__law_question k__law_question
  have b__law_question := F__law_question.binds (ps := ["_law_source_here", "_law_theory", "_law_solutions_here"]) fun _ _ _ _ _ _ us hl => match us, hl with | [_, _, _], _ => rfl
  have F__law_order := fun_mk (x := "_law_order") (qual := "_law_order") (st := s__law_order) l__law_order c__law_order k__law_order
  have b__law_order := F__law_order.binds (ps := ["_law_source_here", "_law_names"]) fun _ _ _ _ _ _ us hl => match us, hl with | [_, _], _ => rfl
  have F__law_made := fun_mk (x := "_law_made") (qual := "_law_made") (st := s__law_made) l__law_made c__law_made k__law_made
  have b__law_made := F__law_made.binds (ps := ["_law_source_here", "_law_theory", "_law_order_here", "_law_decided"]) fun _ _ _ _ _ _ us hl => match us, hl with | [_, _, _, _], _ => rfl
  have F__law_leaf := fun_mk (x := "_law_leaf") (qual := "_law_leaf") (st := s__law_leaf) l__law_leaf c__law_leaf k__law_leaf
  have b__law_leaf := F__law_leaf.binds (ps := ["_law_source_here", "_law_count"]) fun _ _ _ _ _ _ us hl => match us, hl with | [_, _], _ => rfl
  have F__law_spoilt := fun_mk (x := "_law_spoilt") (qual := "_law_spoilt") (st := s__law_spoilt) l__law_spoilt c__law_spoilt k__law_spoilt
  have b__law_spoilt := F__law_spoilt.binds (ps := ["_law_source_here", "_law_names", "_law_tree", "_law_count"]) fun _ _ _ _ _ _ us hl => match us, hl with | [_, _, _, _], _ => rfl
  have F__law_changed := fun_mk (x := "_law_changed") (qual := "_law_changed") (st := s__law_changed) l__law_changed c__law_changed k__law_changed
  have b__law_changed := F__law_changed.binds (ps := ["_law_source_here", "_law_names", "_law_tree", "_law_count", "_law_depth"]) fun _ _ _ _ _ _ us hl => match us, hl with | [_, _, _, _, _], _ => rfl
  have F__law_grown := fun_mk (x := "_law_grown") (qual := "_law_grown") (st := s__law_grown) l__law_grown c__law_grown k__law_grown
  have b__law_grown := F__law_grown.binds (ps := ["_law_source_here", "_law_names", "_law_count", "_law_depth"]) fun _ _ _ _ _ _ us hl => match us, hl with | [_, _, _, _], _ => rfl
  have F__law_is_tree := fun_mk (x := "_law_is_tree") (qual := "_law_is_tree") (st := s__law_is_tree) l__law_is_tree c__law_is_tree k__law_is_tree
  have b__law_is_tree := F__law_is_tree.binds (ps := ["_law_tree", "_law_depth"]) fun _ _ _ _ _ _ us hl => match us, hl with | [_, _], _ => rfl
  have F__law_breaks := fun_mk (x := "_law_breaks") (qual := "_law_breaks") (st := s__law_breaks) l__law_breaks c__law_breaks k__law_breaks
  have b__law_breaks := F__law_breaks.binds (ps := ["_law_found", "_law_question_here", "_law_solutions_here"]) fun _ _ _ _ _ _ us hl => match us, hl with | [_, _, _], _ => rfl
  have F_law := fun_mk (x := "law") (qual := "law") (st := s_law) l_law c_law k_law
  have m_all := PySem.W.mg_none_of X G z_all
  have m_tuple := PySem.W.mg_none_of X G z_tuple
  have m_isinstance := PySem.W.mg_none_of X G z_isinstance
  have m_int := PySem.W.mg_none_of X G z_int
  have m_len := PySem.W.mg_none_of X G z_len
  have m_list := PySem.W.mg_none_of X G z_list
  have m_zip := PySem.W.mg_none_of X G z_zip
  have m_min := PySem.W.mg_none_of X G z_min
  have m_enumerate := PySem.W.mg_none_of X G z_enumerate
  have m_bool := PySem.W.mg_none_of X G z_bool
  have m_range := PySem.W.mg_none_of X G z_range
  have m_max := PySem.W.mg_none_of X G z_max
  have m_str := PySem.W.mg_none_of X G z_str
  have m_dict := PySem.W.mg_none_of X G z_dict
  refine ⟨PySem.W.fnOf "law" "law" (defArgs s_law) (defBody s_law) (defScope s_law) .none kV_law dc_law pm_law an_law cd_law ct_law, fun s v => .of_eq rfl, fun base _ _ => ?_⟩
  have C_agreeing : Cal l.prog w K mg base "agreeing" 1 ["constraint", "decided"] (spAgree K) := ⟨_, _, ok_agreeing (F := F_agreeing) (m_all := m_all) (m_tuple := m_tuple), PySem.W.mg_of X G a_agreeing, F_agreeing.kp, b_agreeing⟩
  have C_can_hold : Cal l.prog w K mg base "can_hold" 2 ["constraint", "decided"] (spCan K) := ⟨_, _, ok_can_hold (F := F_can_hold) (C_agreeing := C_agreeing), PySem.W.mg_of X G a_can_hold, F_can_hold.kp, b_can_hold⟩
  have C__is_shown : Cal l.prog w K mg base "_is_shown" 1 ["constraint", "decided"] (spShown K) := ⟨_, _, ok_shown (F := F__is_shown) (m_all := m_all) (m_tuple := m_tuple), PySem.W.mg_of X G a__is_shown, F__is_shown.kp, b__is_shown⟩
  have C__is_right : Cal l.prog w K mg base "_is_right" 10 ["theory", "constraint", "tree", "decided"] (spRight K 8) := ⟨_, _, ok_right (F := F__is_right) (m_isinstance := m_isinstance) (m_int := m_int) (m_len := m_len) (m_list := m_list) (m_zip := m_zip) (m_all := m_all) (C_can_hold := C_can_hold) (C__is_shown := C__is_shown) (m_VALUES := m_VALUES) (t_VALUES := t_VALUES) (gS := PySem.W.mg_of X G a__is_right) (kS := F__is_right.kp) (bS := b__is_right) 8, PySem.W.mg_of X G a__is_right, F__is_right.kp, b__is_right⟩
  have C__next_name : Cal l.prog w K mg base "_next_name" 1 ["names", "tables", "constraint"] (spNext K) := ⟨_, _, ok_next (F := F__next_name) (m_len := m_len) (m_min := m_min), PySem.W.mg_of X G a__next_name, F__next_name.kp, b__next_name⟩
  have C__cases : Cal l.prog w K mg base "_cases" 7 ["names", "tables", "constraint", "decided"] (spCases K 6) := ⟨_, _, ok_cases (F := F__cases) (m_enumerate := m_enumerate) (m_tuple := m_tuple) (C_agreeing := C_agreeing) (C__is_shown := C__is_shown) (C__next_name := C__next_name) (m_VALUES := m_VALUES) (t_VALUES := t_VALUES) (gS := PySem.W.mg_of X G a__cases) (kS := F__cases.kp) (bS := b__cases) 6, PySem.W.mg_of X G a__cases, F__cases.kp, b__cases⟩
  have C__explored : Cal l.prog w K mg base "_explored" 8 ["theory", "constraint"] (spExpl K) := ⟨_, _, ok_explored (F := F__explored) (C__cases := C__cases), PySem.W.mg_of X G a__explored, F__explored.kp, b__explored⟩
  have M_certificate : MthC l.prog w K mg base C "certificate" 9 ["self", "theory", "constraint"] (spCert K C) := ⟨_, _, clC, ⟨a_MC_certificate, i_MC_certificate, k_MC_certificate⟩, ok_cert (F := F_MC_certificate) (C__explored := C__explored), b_MC_certificate⟩
  have M_counterexample : MthC l.prog w K mg base C "counterexample" 9 ["self", "theory", "constraint"] (spCtr K C) := ⟨_, _, clC, ⟨a_MC_counterexample, i_MC_counterexample, k_MC_counterexample⟩, ok_ctr (F := F_MC_counterexample) (C__explored := C__explored), b_MC_counterexample⟩
  have M_accepts : MthC l.prog w K mg base C "accepts" 11 ["self", "theory", "constraint", "certificate"] (spAcc K C) := ⟨_, _, clC, ⟨a_MC_accepts, i_MC_accepts, k_MC_accepts⟩, ok_acc (F := F_MC_accepts) (C__is_right := C__is_right), b_MC_accepts⟩
  have C__law_source : Cal l.prog w K mg base "_law_source" 1 ["_law_script", "_law_k"] (spSource K) := ⟨_, _, ok_source (F := F__law_source) (m_len := m_len) (m_int := m_int), PySem.W.mg_of X G a__law_source, F__law_source.kp, b__law_source⟩
  have C__law_draw : Cal l.prog w K mg base "_law_draw" 1 ["_law_source_here", "_law_limit"] spDraw := ⟨_, _, ok_draw (F := F__law_draw) (m_int := m_int), PySem.W.mg_of X G a__law_draw, F__law_draw.kp, b__law_draw⟩
  have C__law_some : Cal l.prog w K mg base "_law_some" 2 ["_law_source_here", "_law_names", "_law_most"] (spSome K) := ⟨_, _, ok_some (F := F__law_some) (m_len := m_len) (C__law_draw := C__law_draw), PySem.W.mg_of X G a__law_some, F__law_some.kp, b__law_some⟩
  have C__law_is_int : Cal l.prog w K mg base "_law_is_int" 1 ["_law_value"] (spIsInt K) := ⟨_, _, ok_is_int (F := F__law_is_int) (m_isinstance := m_isinstance) (m_int := m_int) (m_bool := m_bool), PySem.W.mg_of X G a__law_is_int, F__law_is_int.kp, b__law_is_int⟩
  have C__law_can_hold : Cal l.prog w K mg base "_law_can_hold" 1 ["_law_table_here", "_law_decided"] (spLCan K) := ⟨_, _, ok_lcan (F := F__law_can_hold) (m_len := m_len) (m_range := m_range), PySem.W.mg_of X G a__law_can_hold, F__law_can_hold.kp, b__law_can_hold⟩
  have C__law_rows_show : Cal l.prog w K mg base "_law_rows_show" 9 ["_law_theory", "_law_constraint", "_law_tree", "_law_decided"] (spRowsShow K 8) := ⟨_, _, ok_rows_show (F := F__law_rows_show) (m_isinstance := m_isinstance) (m_int := m_int) (m_len := m_len) (m_range := m_range) (C__law_can_hold := C__law_can_hold) (gS := PySem.W.mg_of X G a__law_rows_show) (kS := F__law_rows_show.kp) (bS := b__law_rows_show) 8, PySem.W.mg_of X G a__law_rows_show, F__law_rows_show.kp, b__law_rows_show⟩
  have C__law_all_rows : Cal l.prog w K mg base "_law_all_rows" 1 ["_law_count"] (spRows K) := ⟨_, _, ok_rows (F := F__law_all_rows) (m_range := m_range) (m_list := m_list), PySem.W.mg_of X G a__law_all_rows, F__law_all_rows.kp, b__law_all_rows⟩
  have C__law_table : Cal l.prog w K mg base "_law_table" 3 ["_law_source_here", "_law_names"] (spTable K) := ⟨_, _, ok_table (F := F__law_table) (m_len := m_len) (m_tuple := m_tuple) (C__law_draw := C__law_draw) (C__law_some := C__law_some) (C__law_all_rows := C__law_all_rows), PySem.W.mg_of X G a__law_table, F__law_table.kp, b__law_table⟩
  have C__law_values : Cal l.prog w K mg base "_law_values" 1 ["_law_names", "_law_row"] (spValues K) := ⟨_, _, ok_values (F := F__law_values) (m_range := m_range) (m_len := m_len), PySem.W.mg_of X G a__law_values, F__law_values.kp, b__law_values⟩
  have C__law_fits : Cal l.prog w K mg base "_law_fits" 1 ["_law_table_here", "_law_values_here"] (spFits K) := ⟨_, _, ok_fits (F := F__law_fits) (m_tuple := m_tuple), PySem.W.mg_of X G a__law_fits, F__law_fits.kp, b__law_fits⟩
  have C__law_solutions : Cal l.prog w K mg base "_law_solutions" 2 ["_law_theory"] (spSol K) := ⟨_, _, ok_sol (F := F__law_solutions) (m_len := m_len) (C__law_all_rows := C__law_all_rows) (C__law_values := C__law_values) (C__law_fits := C__law_fits), PySem.W.mg_of X G a__law_solutions, F__law_solutions.kp, b__law_solutions⟩
  have C__law_question : Cal l.prog w K mg base "_law_question" 4 ["_law_source_here", "_law_theory", "_law_solutions_here"] (spQuest K) := ⟨_, _, ok_quest (F := F__law_question) (m_len := m_len) (m_tuple := m_tuple) (C__law_draw := C__law_draw) (C__law_some := C__law_some) (C__law_table := C__law_table) (C__law_all_rows := C__law_all_rows), PySem.W.mg_of X G a__law_question, F__law_question.kp, b__law_question⟩
  have C__law_order : Cal l.prog w K mg base "_law_order" 2 ["_law_source_here", "_law_names"] (spOrder K) := ⟨_, _, ok_order (F := F__law_order) (m_len := m_len) (m_list := m_list) (C__law_draw := C__law_draw), PySem.W.mg_of X G a__law_order, F__law_order.kp, b__law_order⟩
  have C__law_made : Cal l.prog w K mg base "_law_made" 7 ["_law_source_here", "_law_theory", "_law_order_here", "_law_decided"] (spMade K 6) := ⟨_, _, ok_made (F := F__law_made) (m_len := m_len) (m_range := m_range) (C__law_draw := C__law_draw) (C__law_can_hold := C__law_can_hold) (gS := PySem.W.mg_of X G a__law_made) (kS := F__law_made.kp) (bS := b__law_made) 6, PySem.W.mg_of X G a__law_made, F__law_made.kp, b__law_made⟩
  have C__law_leaf : Cal l.prog w K mg base "_law_leaf" 2 ["_law_source_here", "_law_count"] spLeaf := ⟨_, _, ok_leaf (F := F__law_leaf) (m_max := m_max) (C__law_draw := C__law_draw), PySem.W.mg_of X G a__law_leaf, F__law_leaf.kp, b__law_leaf⟩
  have C__law_spoilt : Cal l.prog w K mg base "_law_spoilt" 3 ["_law_source_here", "_law_names", "_law_tree", "_law_count"] (spSpoilt K) := ⟨_, _, ok_spoilt (F := F__law_spoilt) (m_len := m_len) (m_list := m_list) (m_isinstance := m_isinstance) (m_int := m_int) (C__law_draw := C__law_draw) (C__law_leaf := C__law_leaf), PySem.W.mg_of X G a__law_spoilt, F__law_spoilt.kp, b__law_spoilt⟩
  have C__law_changed : Cal l.prog w K mg base "_law_changed" 9 ["_law_source_here", "_law_names", "_law_tree", "_law_count", "_law_depth"] (spChanged K 6) := ⟨_, _, ok_changed (F := F__law_changed) (m_isinstance := m_isinstance) (m_int := m_int) (m_list := m_list) (m_tuple := m_tuple) (C__law_draw := C__law_draw) (C__law_spoilt := C__law_spoilt) (gS := PySem.W.mg_of X G a__law_changed) (kS := F__law_changed.kp) (bS := b__law_changed) 6, PySem.W.mg_of X G a__law_changed, F__law_changed.kp, b__law_changed⟩
  have C__law_grown : Cal l.prog w K mg base "_law_grown" 5 ["_law_source_here", "_law_names", "_law_count", "_law_depth"] (spGrown K 3) := ⟨_, _, ok_grown (F := F__law_grown) (m_len := m_len) (m_list := m_list) (m_range := m_range) (C__law_draw := C__law_draw) (C__law_leaf := C__law_leaf) (gS := PySem.W.mg_of X G a__law_grown) (kS := F__law_grown.kp) (bS := b__law_grown) 3, PySem.W.mg_of X G a__law_grown, F__law_grown.kp, b__law_grown⟩
  have C__law_is_tree : Cal l.prog w K mg base "_law_is_tree" 7 ["_law_tree", "_law_depth"] (spIsTree K 6) := ⟨_, _, ok_is_tree (F := F__law_is_tree) (m_isinstance := m_isinstance) (m_tuple := m_tuple) (m_str := m_str) (m_len := m_len) (m_range := m_range) (C__law_is_int := C__law_is_int) (gS := PySem.W.mg_of X G a__law_is_tree) (kS := F__law_is_tree.kp) (bS := b__law_is_tree) 6, PySem.W.mg_of X G a__law_is_tree, F__law_is_tree.kp, b__law_is_tree⟩
  have C__law_breaks : Cal l.prog w K mg base "_law_breaks" 2 ["_law_found", "_law_question_here", "_law_solutions_here"] (spBreaks K) := ⟨_, _, ok_breaks (F := F__law_breaks) (m_len := m_len) (m_isinstance := m_isinstance) (m_dict := m_dict) (C__law_is_int := C__law_is_int) (C__law_fits := C__law_fits), PySem.W.mg_of X G a__law_breaks, F__law_breaks.kp, b__law_breaks⟩
  exact ok_law F_law (m_range := m_range) (m_tuple := m_tuple) (m_len := m_len) (m_isinstance := m_isinstance) (m_bool := m_bool) (B_Rows := B_Rows) (C__law_source := C__law_source) (C__law_draw := C__law_draw) (C__law_some := C__law_some) (C__law_table := C__law_table) (C__law_solutions := C__law_solutions) (C__law_question := C__law_question) (C__law_fits := C__law_fits) (M_certificate := M_certificate) (M_counterexample := M_counterexample) (M_accepts := M_accepts) (C__law_made := C__law_made) (C__law_order := C__law_order) (C__law_breaks := C__law_breaks) (C__law_is_tree := C__law_is_tree) (C__law_rows_show := C__law_rows_show) (C__law_changed := C__law_changed) (C__law_grown := C__law_grown)
end K21
open PySem PySem.W PyProof.Rows
set_option maxRecDepth 100000 in
set_option maxHeartbeats 0 in
theorem PySem.Challenge.cw_shadowlinks_k21_trees_of_cases_holds : PySem.Challenge.rw_shadowlinks_k21_trees_of_cases.Holds := by
  w_on; o_law; k_head; (case hw => w_witness2)
  k_fill
  refine L2.walk_of (l := PySem.Challenge.rw_shadowlinks_k21_trees_of_cases) (n := 63) (k := 12) (x := "_law_script") (CX := fun _ => L2.CX0) (sp := fun w => K21.spLaw _) rfl (by decide) rfl ⟨rfl, by decide, by decide⟩ (fun w h Y => PySem.W.kIn_of Y) ?F (fun _ _ a ns hl _ hS => ⟨a, ns, rfl, hS, hl, fun _ => rfl⟩) (fun _ _ _ _ _ h => h)
  case F =>
    intro w mg fa h KX G hmg
    refine' K21.all_mk KX G hmg ?aC ?pgC ?hdC ?poC ?saC ?mkC ?kcC ?iniC ?z_VALUES ?l_VALUES ?a_agreeing ?l_agreeing ?c_agreeing ?k_agreeing ?a_can_hold ?l_can_hold ?c_can_hold ?k_can_hold ?a__is_shown ?l__is_shown ?c__is_shown ?k__is_shown ?a__is_right ?l__is_right ?c__is_right ?k__is_right ?a__next_name ?l__next_name ?c__next_name ?k__next_name ?a__cases ?l__cases ?c__cases ?k__cases ?a__explored ?l__explored ?c__explored ?k__explored ?a_MC_certificate ?l_MC_certificate ?c_MC_certificate ?k_MC_certificate ?i_MC_certificate ?a_MC_counterexample ?l_MC_counterexample ?c_MC_counterexample ?k_MC_counterexample ?i_MC_counterexample ?a_MC_accepts ?l_MC_accepts ?c_MC_accepts ?k_MC_accepts ?i_MC_accepts ?a__law_source ?l__law_source ?c__law_source ?k__law_source ?a__law_draw ?l__law_draw ?c__law_draw ?k__law_draw ?a__law_some ?l__law_some ?c__law_some ?k__law_some ?a__law_is_int ?l__law_is_int ?c__law_is_int ?k__law_is_int ?a__law_can_hold ?l__law_can_hold ?c__law_can_hold ?k__law_can_hold ?a__law_rows_show ?l__law_rows_show ?c__law_rows_show ?k__law_rows_show ?a__law_all_rows ?l__law_all_rows ?c__law_all_rows ?k__law_all_rows ?a__law_table ?l__law_table ?c__law_table ?k__law_table ?a__law_values ?l__law_values ?c__law_values ?k__law_values ?a__law_fits ?l__law_fits ?c__law_fits ?k__law_fits ?a__law_solutions ?l__law_solutions ?c__law_solutions ?k__law_solutions ?a__law_question ?l__law_question ?c__law_question ?k__law_question ?a__law_order ?l__law_order ?c__law_order ?k__law_order ?a__law_made ?l__law_made ?c__law_made ?k__law_made ?a__law_leaf ?l__law_leaf ?c__law_leaf ?k__law_leaf ?a__law_spoilt ?l__law_spoilt ?c__law_spoilt ?k__law_spoilt ?a__law_changed ?l__law_changed ?c__law_changed ?k__law_changed ?a__law_grown ?l__law_grown ?c__law_grown ?k__law_grown ?a__law_is_tree ?l__law_is_tree ?c__law_is_tree ?k__law_is_tree ?a__law_breaks ?l__law_breaks ?c__law_breaks ?k__law_breaks ?a_law ?l_law ?c_law ?k_law ?z_all ?z_tuple ?z_isinstance ?z_int ?z_len ?z_list ?z_zip ?z_min ?z_enumerate ?z_bool ?z_range ?z_max ?z_str ?z_dict
    (case aC => k_is)
    (case pgC => k_is)
    (case hdC => k_is)
    (case poC => k_is)
    (case saC => k_is)
    (case mkC => k_is)
    (case kcC => k_is)
    (case iniC => k_is)
    (case z_VALUES => k_is)
    (case l_VALUES => k_is)
    (case a_agreeing => k_is)
    (case l_agreeing => k_is)
    (case c_agreeing => k_is)
    (case k_agreeing => k_is)
    (case a_can_hold => k_is)
    (case l_can_hold => k_is)
    (case c_can_hold => k_is)
    (case k_can_hold => k_is)
    (case a__is_shown => k_is)
    (case l__is_shown => k_is)
    (case c__is_shown => k_is)
    (case k__is_shown => k_is)
    (case a__is_right => k_is)
    (case l__is_right => k_is)
    (case c__is_right => k_is)
    (case k__is_right => k_is)
    (case a__next_name => k_is)
    (case l__next_name => k_is)
    (case c__next_name => k_is)
    (case k__next_name => k_is)
    (case a__cases => k_is)
    (case l__cases => k_is)
    (case c__cases => k_is)
    (case k__cases => k_is)
    (case a__explored => k_is)
    (case l__explored => k_is)
    (case c__explored => k_is)
    (case k__explored => k_is)
    (case a_MC_certificate => k_is)
    (case l_MC_certificate => k_is)
    (case c_MC_certificate => k_is)
    (case k_MC_certificate => k_is)
    (case i_MC_certificate => k_is)
    (case a_MC_counterexample => k_is)
    (case l_MC_counterexample => k_is)
    (case c_MC_counterexample => k_is)
    (case k_MC_counterexample => k_is)
    (case i_MC_counterexample => k_is)
    (case a_MC_accepts => k_is)
    (case l_MC_accepts => k_is)
    (case c_MC_accepts => k_is)
    (case k_MC_accepts => k_is)
    (case i_MC_accepts => k_is)
    (case a__law_source => k_is)
    (case l__law_source => k_is)
    (case c__law_source => k_is)
    (case k__law_source => k_is)
    (case a__law_draw => k_is)
    (case l__law_draw => k_is)
    (case c__law_draw => k_is)
    (case k__law_draw => k_is)
    (case a__law_some => k_is)
    (case l__law_some => k_is)
    (case c__law_some => k_is)
    (case k__law_some => k_is)
    (case a__law_is_int => k_is)
    (case l__law_is_int => k_is)
    (case c__law_is_int => k_is)
    (case k__law_is_int => k_is)
    (case a__law_can_hold => k_is)
    (case l__law_can_hold => k_is)
    (case c__law_can_hold => k_is)
    (case k__law_can_hold => k_is)
    (case a__law_rows_show => k_is)
    (case l__law_rows_show => k_is)
    (case c__law_rows_show => k_is)
    (case k__law_rows_show => k_is)
    (case a__law_all_rows => k_is)
    (case l__law_all_rows => k_is)
    (case c__law_all_rows => k_is)
    (case k__law_all_rows => k_is)
    (case a__law_table => k_is)
    (case l__law_table => k_is)
    (case c__law_table => k_is)
    (case k__law_table => k_is)
    (case a__law_values => k_is)
    (case l__law_values => k_is)
    (case c__law_values => k_is)
    (case k__law_values => k_is)
    (case a__law_fits => k_is)
    (case l__law_fits => k_is)
    (case c__law_fits => k_is)
    (case k__law_fits => k_is)
    (case a__law_solutions => k_is)
    (case l__law_solutions => k_is)
    (case c__law_solutions => k_is)
    (case k__law_solutions => k_is)
    (case a__law_question => k_is)
    (case l__law_question => k_is)
    (case c__law_question => k_is)
    (case k__law_question => k_is)
    (case a__law_order => k_is)
    (case l__law_order => k_is)
    (case c__law_order => k_is)
    (case k__law_order => k_is)
    (case a__law_made => k_is)
    (case l__law_made => k_is)
    (case c__law_made => k_is)
    (case k__law_made => k_is)
    (case a__law_leaf => k_is)
    (case l__law_leaf => k_is)
    (case c__law_leaf => k_is)
    (case k__law_leaf => k_is)
    (case a__law_spoilt => k_is)
    (case l__law_spoilt => k_is)
    (case c__law_spoilt => k_is)
    (case k__law_spoilt => k_is)
    (case a__law_changed => k_is)
    (case l__law_changed => k_is)
    (case c__law_changed => k_is)
    (case k__law_changed => k_is)
    (case a__law_grown => k_is)
    (case l__law_grown => k_is)
    (case c__law_grown => k_is)
    (case k__law_grown => k_is)
    (case a__law_is_tree => k_is)
    (case l__law_is_tree => k_is)
    (case c__law_is_tree => k_is)
    (case k__law_is_tree => k_is)
    (case a__law_breaks => k_is)
    (case l__law_breaks => k_is)
    (case c__law_breaks => k_is)
    (case k__law_breaks => k_is)
    (case a_law => k_is)
    (case l_law => k_is)
    (case c_law => k_is)
    (case k_law => k_is)
    (case z_all => k_is)
    (case z_tuple => k_is)
    (case z_isinstance => k_is)
    (case z_int => k_is)
    (case z_len => k_is)
    (case z_list => k_is)
    (case z_zip => k_is)
    (case z_min => k_is)
    (case z_enumerate => k_is)
    (case z_bool => k_is)
    (case z_range => k_is)
    (case z_max => k_is)
    (case z_str => k_is)
    (case z_dict => k_is)
#print axioms PySem.Challenge.cw_shadowlinks_k21_trees_of_cases_holds
