import PyProof.Rows.All
import Wide.All
import OpenK.AllK
import Wide.FinOn
import HandS.ExcInit
import HandS.Nested
import KE.KExcSuper
import HandS.ForExc
import PyProof.Rows.SortShellAny
import HandS.SetTxt0
import HandS.TupSets
import HandS.ForMost
import HandS.Walk
import HandS.IsInst
import HandS.IterVal
import HandS.Star
import HandS.Deep
import HandS.DictComp
import HandS.Zip
import HandS.ExcField
import HandS.ExcIs
import KE.KExcIs
import HandS.WordsExc
import HandS.FStr
import HandS.Defaults
import HandS.CallSlots
import HandS.Wide
import HandS.Style
import HandS.OwnEq
import HandS.Property
import OpenK.KMeth
import OpenK.KOps
import KE.KOpsOwn
import KE.KOwnIter
import KE.KDictPairs
import HandS.Gcd
import HandS.ClsMeth
import HandS.TupMul
import HandS.SetFor
import HandS.TupAny
import KE.DataFind
import HandS.TryMany
import HandS.OwnIter
import HandS.Iter
import HandS.Comp
import HandS.Dict
import KE.KDictKeyed
import KE.SortData
import KE.KeyNested
import PyProof.SetRoads
import HandS.Strs
import HandS.WideBits
import HandS.CallRecv
import PySem.Challenge.RW_shadowlinks_k36_machines_read
set_option Elab.async false
set_option linter.all false
set_option maxRecDepth 100000
/-! An own exception's __init__ that begins with super().__init__(e), over ValueError. -/
namespace Sup
open PySem PySem.Spec PyProof.Rows L2 NdefX
abbrev vei : String := "ValueError.__init__"
def mwO (u a : Addr) : HO := .ext fun h => h.get? u = some (PySem.W.kxs_mw vei a)
theorem mwO_ok {P : Program} {w : World} {H : Hp} {h : Heap} {u a : Addr} (e : h.get? u = some (PySem.W.kxs_mw vei a)) : ObjOk P w H h u (mwO u a) := ⟨e, ⟨_, e⟩, fun h1 h2 z k => k _ z⟩
theorem mwO_at {P : Program} {w : World} {H : Hp} {h : Heap} {u a : Addr} (hok : HOk P w H h) (e : H u = some (mwO u a)) : h.get? u = some (PySem.W.kxs_mw vei a) := by
  have x : ObjOk P w H h u (.ext fun h => h.get? u = some (PySem.W.kxs_mw vei a)) := hok u _ e
  exact x.1
/-- what the written part says of a def that says super() -/
structure SupF (P : Program) (K : PySem.W.Frag) (mg : Str → Option Value) (env : Env) (sn : Str) (D : Addr) : Prop where
  ks : env.kindOf "super" = some .globalImplicit
  kc : env.kindOf "__class__" = some .free
  fn : ∃ (f : Addr) (oc : Value) (od : Option Addr) (fd : FuncData) (osl : Array (Option Value)) (ar : Arg), env.func = some f ∧ K.lookup f = some ⟨oc, od, .func fd, osl⟩ ∧ (fd.params.posonlyargs ++ fd.params.args).head? = some ar ∧ ar.arg = sn
  co : ∃ (cda : Addr) (ccl : Value) (cdd : Option Addr) (vs : Array Value) (ccs : Array (Option Value)) (file : Str) (tf : Tok), env.code = .ref cda ∧ K.lookup cda = some ⟨ccl, cdd, .fields vs, ccs⟩ ∧ vs[2]? = some (.str file tf) ∧ ((P.main.file : Str) == file) = true
  top : (P.main.scope.names.lookup ("super" : Str)).isSome = false
  ce : ∃ (cc : Addr) (cl : Value) (cld : Option Addr) (csl : Array (Option Value)), env.cells.lookup ("__class__" : Str) = some cc ∧ K.lookup cc = some ⟨cl, cld, .cell (some (.ref D)), csl⟩
  mg : mg "super" = none
  any : PySem.W.nsIn K cStatics "thirdparty.any" = some none
  it : interactive env = false
  ka : env.kindOf sn = some .local
/-- .. and of the class of the object -/
structure SupC (K : PySem.W.Frag) (C D : Addr) : Prop where
  cls : ∃ cd, PySem.W.clsIn K D = some cd
  sub : PySem.W.mroIn K C (.ref D) = some true
  sup : PySem.W.ks_superIn K C D "__init__" = some (some (.builtin vei))
  ve : PySem.W.subIn K (.ref C) (.type "ValueError") = some true
  exc : OexC K C
section
variable {X : Cx} {pins : List (Addr × Obj)} {σ : List (Option V)} {H : Hp} {s : Shared} {self : Str} {D a C : Addr} {body : List Stmt} {p0 p1 p2 pos pos' : Pos} {e : Expr} {te : TE}
theorem ld_super {E : Value → Shared → Prop} {Q : Value → Shared → Prop} (I : Inv X pins σ H s) (S : SupF X.prog X.K X.mg X.env self D) (h : Q (.type "super") s) : wpAny (model X.prog X.w) X.A (loadName X.env "super") Q E s := by
  obtain ⟨mb, h1, h2⟩ := I.mod.blt
  exact PySem.W.ks_loadName_global I.ok.kind S.ks (Calls.loadGlobal_builtin (by rw [I.ok.glob]; exact I.mod.glob.keeps I.bk) S.mg (by rw [I.ok.blt]; exact h1.keeps I.bk) ((h2 _ (by decide)).trans (by rfl)) h)
theorem self_at (I : Inv X pins σ H s) {u : V} (h1 : X.N[0]? = some self) (h2 : σ[0]? = some (some u)) (hk : X.env.kindOf self = some .local) : ∃ m v, s.heap.Ns X.env.locals m ∧ m self = some v ∧ RelV u v := by
  obtain ⟨m, hn, hl⟩ := I.loc
  obtain ⟨v, r, k⟩ := hl 0 self u h1 h2 (.inl hk)
  rcases k with ⟨_, k⟩ | ⟨k, _⟩
  · exact ⟨m, v, hn, k, r⟩
  · rcases k with k | k <;> · rw [hk] at k; cases k
theorem exo_inst {C a : Addr} (T : OexC X.K C) (I : Inv X pins σ H s) (e : H a = some (exo a C none)) : ∃ t1 : Addr, PySem.W.InstAt s.heap a { cls := .ref C, dict := none, data := .fields #[.ref t1, .none, .none, .none, .bool false, .none] } C none := by
  obtain ⟨t1, ho⟩ := exo_at I.hok e
  exact ⟨t1, ho, rfl, rfl, trivial⟩
/-- the wrapper called -/
theorem call_mw {u : Addr} {us : List Value} {Q : Value → Shared → Prop} {E : Value → Shared → Prop} {A : Around} (T : OexC X.K C) (I : Inv X pins σ H s) (eu : H u = some (mwO u a)) (ea : H a = some (exo a C none)) (hl : us.length ≤ sizeLine) (h : ∀ s', Inv X pins σ H s' → Q .none s') :
    wpAny (model X.prog X.w) A (call (.ref u) us) Q E s := by
  obtain ⟨nm, q, N, bs, bm, sn, sub, ab, col, dd, k0, k1, k2, k3, k5, hC, hbm⟩ := T.cls
  obtain ⟨t1, ho⟩ := exo_at I.hok ea
  have hu := mwO_at I.hok eu
  have hCh := I.kIn _ _ hC
  have FB := F.excBase_ValueError
  obtain ⟨hp, g, d, t, os⟩ := s
  refine wpAny_call (codeAny_of_tree ?_)
  show wpAny _ A.in1 (callAny (.ref u) ⟨us, []⟩) _ _ _
  simp only [callAny]
  refine wpAny_bind (wpAny_load hu ?_)
  simp only [PySem.W.kxs_mw, show (Value.type "method-wrapper" == Value.type "method" || Value.type "method-wrapper" == Value.type "builtin_function_or_method" || Value.type "method-wrapper" == Value.type "method-wrapper") = true by decide, if_true]
  refine PySem.W.KFB.if_so (by decide) ?_
  refine wpAny_bind (PySem.W.check_bound_init FB.toExcCallFacts hCh ho rfl ?_)
  refine wpAny_bind (wpAny_pure (wpAny_pure ?_))
  refine ⟨plainId_quiet FB.init.plain _, codeAny_builtin FB.initEntry ?_⟩
  refine PySem.W.exc_init_tree (cls := .ref C) (t0 := t1) (dv := none) (c2 := .none) (c3 := .none) (b4 := .bool false) ho hl fun h' k hx _ => ?_
  have J := I.write (t' := t) (x := a) (e := a) (o := exo a C none) (by rw [ea]; exact True.intro) (.inl rfl) k ⟨_, hx⟩ (exo_ok hx)
  have eu2 : upd H a (exo a C none) = H := by
    funext b
    by_cases hb : b = a
    · rw [hb, upd_same, ea]
    · rw [upd_ne hb]
  rw [eu2] at J
  exact h _ J
theorem sup_stmt {es : List Expr} {pl : Sem Bool} {ta : TA} {G : Hp → Prop} {Q : Flow → Shared → Prop} (I : Inv X pins σ H s) (S : SupF X.prog X.K X.mg X.env self D) (T : SupC X.K C D) (hN : X.N[0]? = some self) (h0 : σ[0]? = some (some (.ref a))) (ea : H a = some (exo a C none)) (ha : PA X (e :: es) ta)
    (h : ∀ u, H u = none → ta σ (upd H u (mwO u a)) fun vs H2 => vs.length ≤ 1000 ∧ H2 u = some (mwO u a) ∧ H2 a = some (exo a C none) ∧ G H2) (hq : ∀ H2 s', Inv X pins σ H2 s' → G H2 → Q .next s')
    (hev : eval (.Call (.Attribute (.Call (.Name "super" p0) [] [] p1) "__init__" p2) (e :: es) [] pos) X.env = (do
      let ov ← attributeBase (.Call (.Name "super" p0) [] [] p1) "__init__" X.env (eval (.Call (.Name "super" p0) [] [] p1) X.env)
      standAt p2.atName
      let (f, first) ← holding [ov] (getMethod ov "__init__" pl)
      callWith pos f first (backTo pos (starEach (e :: es) X.env)) []) := by rfl)
    (he : starEach (e :: es) X.env = (false, eval e X.env) :: starEach es X.env := by rfl) (hpl : (backTo pos (starEach es X.env)).any (·.1) = false := by rfl) :
    _root_.PySem.wpAt (model X.prog X.w) X.A (.func body X.env) (exec (.Expr (.Call (.Attribute (.Call (.Name "super" p0) [] [] p1) "__init__" p2) (e :: es) [] pos) pos') X.env) Q X.xe s := by
  refine ks_wpAt_Expr_any ?_ S.it
  refine ks_wpAt_MethodCall ?_ hev
  obtain ⟨f, oc, od, fd, osl, ar, hfu, lf, hp, har⟩ := S.fn
  obtain ⟨cda, ccl, cdd, vs, ccs, file, tf, hco, lc, hvs, hfile⟩ := S.co
  obtain ⟨cc, cl, cld, csl, hcl, lcc⟩ := S.ce
  obtain ⟨m, v, hn, hv, rv⟩ := self_at I hN h0 S.ka
  obtain rfl : v = Value.ref a := rv
  obtain ⟨t1, inst⟩ := exo_inst T.exc I ea
  obtain ⟨cdD, hD⟩ := T.cls
  have XK := I.kIn
  obtain ⟨oD, hD1, hD2⟩ : ∃ oD, s.heap.get? D = some oD ∧ oD.data = .cls cdD := by
    unfold PySem.W.clsIn at hD
    split at hD
    · rename_i c d cd' sl ho
      cases hD
      exact ⟨_, XK _ _ ho, rfl⟩
    · cases hD
  refine ks_wpAt_super_base S.ks S.kc (by decide) hfu (XK _ _ lf) rfl hp hco (XK _ _ lc) rfl hvs hfile S.top ?_
  refine ld_super I S ⟨rfl, ?_⟩
  refine wpAny_loadName_free I.ok.kind S.kc hcl ⟨_, XK _ _ lcc, rfl⟩ ?_
  refine wpAny_loadName_local I.ok.kind (har ▸ S.ka) hn (har ▸ hv) ?_
  refine ks_wpAny_isType_cls hD1 hD2 ⟨rfl, ?_⟩
  obtain ⟨hp0, g, d, t, os⟩ := s
  refine ks_wpAny_call_super hD1 hD2 inst.at_ rfl (fun c e => by cases e) (PySem.W.looks_mroIn XK T.sub) fun h' eso k => ?_
  have I2 : Inv X pins σ H ⟨h', g, d, t, os⟩ := I.kept (t' := t) k
  have XK2 := I2.kIn
  have sup := T.sup
  unfold PySem.W.ks_superIn at sup
  cases hc : PySem.W.clsIn X.K C with
  | none =>
    rw [hc] at sup
    cases sup
  | some cd =>
    rw [hc] at sup
    obtain ⟨t2, inst2⟩ := exo_inst T.exc I2 ea
    refine PySem.W.kxs_getMethod PySem.W.kxs_ValueError eso (PySem.W.looks_opaque XK2 S.any) (l₀ := cd.mro) ?_ rfl XK2 sup (inst2.type.andThen (PySem.W.looks_subIn XK2 T.ve)) (PySem.W.ks_ne XK2 inst2 hc) (by decide) ?_
    · exact fun A Q E s k q => wpAny_bind ((PySem.W.looks_clsIn XK2 hc) A _ E s k (wpAny_pure q))
    · have hnu : H h'.objs.size = none := I2.hok.fresh (Nat.le_refl _)
      have gu : (h'.push (PySem.W.kxs_mw vei a)).get? h'.objs.size = some (PySem.W.kxs_mw vei a) := Heap.get?_push_at rfl rfl
      have I3 : Inv X pins σ (upd H h'.objs.size (mwO h'.objs.size a)) ⟨h'.push (PySem.W.kxs_mw vei a), g, d, t + 1, os⟩ :=
        I2.laid (t' := t + 1) (fun b o e => Heap.get?_push_of_some _ e) (Nat.le_refl _) (mwO_ok gu)
      show wpAny _ _ (callWith pos (.ref h'.objs.size) [] (backTo pos (starEach (e :: es) X.env)) []) _ _ _
      have run := ha.run pos pins _ σ _ _ I3 (h _ hnu)
      rw [he] at run ⊢
      refine PySem.W.kxs_callWith (i := vei) (x := a) (by show (false || (backTo pos (starEach es X.env)).any (·.1)) = false; rw [hpl]; rfl) ?_
      refine Calls.evalArgs_plain (thn run fun us s1 ⟨vs, H1, I1, r1, hz, eu, ea1, hG⟩ => ⟨mwO_at I1.hok eu, ?_⟩)
      exact call_mw T.exc I1 eu ea1 (by show us.length ≤ _; rw [← Paired.length r1, sizeLine_eq]; omega) fun s' J => hq H1 s' J hG
end
section
variable {CX : CXT} {P : Program} {w : World} {K : PySem.W.Frag} {mg : Str → Option Value} {base : Heap} {k : Nat} {F : NF} {f cc D : Addr} {kV doc pm ct oc : Value} {an od : Option Addr} {osl : Array (Option Value)} {N ps : List Str} {sp : Sp} {self : Str} {e : Expr} {es : List Expr} {p0 p1 p2 pos pos' : Pos} {rest : List Stmt} {pl : Sem Bool}
theorem fn_sup (lk : K.lookup f = some ⟨oc, od, .func (PySem.W.fnX F.name F.qual F.params F.body F.scope F.cl .none kV doc pm an (.ref F.c) ct), osl⟩) (hcd : PySem.W.codeIn K (.ref F.c) F.qual = true) (hcl : F.cl = [(("__class__" : Str), cc)])
    (hcc : ∃ cl cld csl, K.lookup cc = some ⟨cl, cld, .cell (some (.ref D)), csl⟩) (S : NScope N ps ["__class__"] F.scope) (hF : ∀ L, SupF P K mg (envF F f L) self D) (hN : N[0]? = some self)
    (hbd : F.body = .Expr (.Call (.Attribute (.Call (.Name "super" p0) [] [] p1) "__init__" p2) (e :: es) [] pos) pos' :: rest)
    (len : ∀ vs H Q E, sp vs H Q E → vs.length = ps.length)
    (hbody : ∀ (A : Around) (outer : List Env) (s : Shared) (H : Hp) (vs : List V) (Q : VK) (E : XK), Room k (A.deeper (envF F f s.heap.objs.size)) → sp vs H Q E →
      ∃ (a C : Addr) (ta : TA) (t : TS), SupC K C D ∧ (startF N vs [none])[0]? = some (some (.ref a)) ∧ H a = some (exo a C none) ∧ PA (ncx CX P w K mg base N F f A outer s H E) (e :: es) ta ∧ PSs (ncx CX P w K mg base N F f A outer s H E) rest t ∧
        ∀ u, H u = none → ta (startF N vs [none]) (upd H u (mwO u a)) fun vs' H2 => vs'.length ≤ 1000 ∧ H2 u = some (mwO u a) ∧ H2 a = some (exo a C none) ∧ t { nx := fun _ H' => Q .non H', rt := Q } (startF N vs [none]) H2)
    (hev : ∀ L, eval (.Call (.Attribute (.Call (.Name "super" p0) [] [] p1) "__init__" p2) (e :: es) [] pos) (envF F f L) = (do
      let ov ← attributeBase (.Call (.Name "super" p0) [] [] p1) "__init__" (envF F f L) (eval (.Call (.Name "super" p0) [] [] p1) (envF F f L))
      standAt p2.atName
      let (g, first) ← holding [ov] (getMethod ov "__init__" pl)
      callWith pos g first (backTo pos (starEach (e :: es) (envF F f L))) []) := by intro L; rfl)
    (he : ∀ L, starEach (e :: es) (envF F f L) = (false, eval e (envF F f L)) :: starEach es (envF F f L) := by intro L; rfl) (hpl : ∀ L, (backTo pos (starEach es (envF F f L))).any (·.1) = false := by intro L; rfl) :
    FnOk P w K mg base CX (k + 1) f (PySem.W.fnX F.name F.qual F.params F.body F.scope F.cl .none kV doc pm an (.ref F.c) ct) ps sp := by
  refine ⟨len, fun A outer s H args us vs Q E hr e0 hb r hsp => ?_⟩
  have hl := len _ _ _ _ hsp
  have KX : K.In s.heap := e0.mod.kin.keeps fun b o e => (e0.bs b o e).1
  have lim : s.heap.NoLimit := e0.mod.nolimit.keeps fun b o e => (e0.bs b o e).1
  obtain ⟨cl, cld, csl, hcc⟩ := hcc
  have C : CellsAt F.cl ["__class__"] [none] s.heap H := by
    have one : ∀ {y : Str} {c : Addr}, F.cl.lookup y = some c → y = "__class__" ∧ c = cc := fun {y c} e => by
      rw [hcl] at e
      by_cases h : y = ("__class__" : Str)
      · subst h
        have e2 : some cc = some c := e
        exact ⟨rfl, (Option.some.inj e2).symm⟩
      · have h2 : (y == ("__class__" : Str)) = false := by simpa using h
        rw [List.lookup_cons, h2] at e
        cases e
    refine ⟨rfl, fun y c e => ?_, fun x y c e1 e2 => (one e1).1.trans (one e2).1.symm, fun i y hi => ?_⟩
    · rw [(one e).2]
      exact ⟨(e0.bs _ _ (e0.mod.kin _ _ hcc)).2, _, ⟨_, KX _ _ hcc, rfl⟩⟩
    · cases i with
      | zero =>
        have e : ("__class__" : Str) = y := Option.some.inj hi
        refine ⟨cc, by rw [hcl, ← e]; rfl, fun v hv => ?_⟩
        cases hv
      | succ i => cases hi
  refine ks_codeAny_call_defAt hr.depth (KX _ _ lk) rfl lim (PySem.W.codeRec_of KX hcd) rfl hb S.nocell (fun ⟨n, v⟩ hy => S.par n (List.of_mem_zip hy).1) (fun h₁ hns kp => ?_) S.co S.gen S.kind
  show _root_.PySem.wpAt (model P w) (A.deeper (envF F f s.heap.objs.size)) (.func F.body (envF F f s.heap.objs.size)) (execs F.body (envF F f s.heap.objs.size)) _ _ _
  obtain ⟨a, Ca, ta, t, hC, h0, ea, pa, ps', hq⟩ := hbody A outer s H vs Q E (hr.deeper _) hsp
  have I : Inv (ncx CX P w K mg base N F f A outer s H E) [] (startF N vs [none]) H { s with heap := h₁, toks := s.toks + (ps.zip us).length } := inv_startN S hr.hd e0 hl r C hns kp
  have fin : ∀ {s' : Shared} {σ' : L2.St} {H' : Hp} {v : V} {u : Value}, Inv (ncx CX P w K mg base N F f A outer s H E) [] σ' H' s' → L2.RelV v u → Q v H' → CE outer P w H s Q u s' :=
    fun {s' σ' H' v u} J rv q => ⟨v, H', J.os, J.bare, J.base, J.hok, rv, q⟩
  have main : ∀ (body : List Stmt), _root_.PySem.wpAt (model P w) (A.deeper (envF F f s.heap.objs.size)) (.func body (envF F f s.heap.objs.size)) (execs (.Expr (.Call (.Attribute (.Call (.Name "super" p0) [] [] p1) "__init__" p2) (e :: es) [] pos) pos' :: rest) (envF F f s.heap.objs.size))
      (fun fl s' => CR CX outer P w H s Q E (.ok (.ret (match fl with | .ret v => v | _ => .none))) s') (ncx CX P w K mg base N F f A outer s H E).xe { s with heap := h₁, toks := s.toks + (ps.zip us).length } := by
    intro body
    refine ks_wpAt_execs_cons ?_
    refine sup_stmt (X := ncx CX P w K mg base N F f A outer s H E) (body := body) (G := fun H2 => t { nx := fun _ H' => Q .non H', rt := Q } (startF N vs [none]) H2) I (hF _) hC hN h0 ea pa hq (fun H2 s' J hG => ?_) (hev _) (he _) (hpl _)
    refine wpAt_of_wpAny ?_
    refine wpAny_mono (ps'.run [] s' (startF N vs [none]) H2 _ J hG) (fun fl s' hs => ?_) fun e s' hs => hs
    cases fl with
    | ret u =>
      obtain ⟨v, σ', H', J, rv, q⟩ := hs
      exact fin J rv q
    | next =>
      obtain ⟨σ', H', J, q⟩ := hs
      exact fin (v := V.non) (u := Value.none) J rfl q
    | brk =>
      obtain ⟨_, _, _, q⟩ := hs
      exact False.elim q
    | cont =>
      obtain ⟨_, _, _, q⟩ := hs
      exact False.elim q
  have m2 := main F.body
  rw [← hbd] at m2
  exact m2
end
end Sup
/-! Sets of texts, made of a list or a tuple, and sorted: any texts, in whatever order the world walks them. -/
namespace Sx
open PySem PySem.Spec PyProof.Rows L2 PySem.Froz

/-! ### lists -/
/-- a list without twins whose members all stand in a list of the same length is that list in another order -/
theorem perm_of_sub : ∀ (l ks : List Str), l.Nodup → (∀ x, x ∈ l → x ∈ ks) → ks.length = l.length → l.Perm ks
  | [], ks, _, _, e => by
    have z : ks = [] := List.length_eq_zero_iff.mp e
    rw [z]
  | x :: l, ks, nd, sub, e => by
    obtain ⟨hx, nd'⟩ := List.nodup_cons.mp nd
    have hm : x ∈ ks := sub x List.mem_cons_self
    have p := List.perm_cons_erase hm
    have hl : (ks.erase x).length = l.length := by
      have q := p.length_eq
      simp only [List.length_cons] at q e
      omega
    refine ((perm_of_sub l (ks.erase x) nd' (fun y hy => ?_) hl).cons x).trans p.symm
    have hne : y ≠ x := fun z => hx (z ▸ hy)
    exact (List.mem_erase_of_ne hne).mpr (sub y (List.mem_cons_of_mem _ hy))

/-! ### the payload behind an add -/
theorem tail_ris {ep : Nat} {es : Array (Int × Value)} {t : SetTable} {d : Bool} (r : Ris t.place.toList) : Ris (tailTx ep es t d).2.2.place.toList := by
  unfold tailTx
  split
  · exact relayAll_ris t es _
  · exact r
theorem tail_led {ep : Nat} {es : Array (Int × Value)} {t : SetTable} {d : Bool} : (tailTx ep es t d).2.2.led = t.led := by
  unfold tailTx
  split
  · exact relayAll_led t es _
  · rfl
theorem add_ris {D : SD} (h : Int) (v : Value) (r : Ris D.2.2.place.toList) : Ris (addTx h v D).2.2.place.toList := by
  have r1 := layNew_ris D.2.2 D.1 h v r
  unfold addTx
  apply tail_ris
  split
  · exact r1
  · exact r1
theorem add_led {D : SD} (h : Int) (v : Value) : (addTx h v D).2.2.led = D.2.2.led := by
  have r1 := layNew_led D.2.2 D.1 h v
  unfold addTx
  rw [tail_led]
  split
  · exact r1
  · exact r1

/-- the set of the texts l stands at a -/
def SetX (P : Program) (w : World) (h : Heap) (a : Addr) (l : List Str) : Prop :=
  ∃ D : SD, h.get? a = some (sObj "set" D) ∧ TxOk P w D l ∧ l.Nodup ∧ Ris D.2.2.place.toList ∧ (w.params.followText "set-order" = true ∨ D.2.2.led = true)

section
variable {P : Program} {w : World} {A : Around} {E : Value → Shared → Prop} {s : Shared}

theorem SetX.at {h h' : Heap} {a : Addr} {l : List Str} (R : SetX P w h a l) (k : ∀ o, h.get? a = some o → h'.get? a = some o) : SetX P w h' a l := by
  obtain ⟨D, ho, r⟩ := R
  exact ⟨D, k _ ho, r⟩
theorem setX_fresh {h : Heap} {a : Addr} (ho : h.get? a = some { cls := .type "set", dict := none, data := .set #[] 0 (.fresh 0 0 (!w.params.followText "set-order")) }) : SetX P w h a [] := by
  refine ⟨(#[], 0, .fresh 0 0 (!w.params.followText "set-order")), ho, TxOk.nil rfl, List.nodup_nil, List.Pairwise.nil, ?_⟩
  show _ ∨ (!w.params.followText "set-order") = true
  cases w.params.followText "set-order"
  · exact .inr rfl
  · exact .inl rfl

/-- one text more, new or there already -/
theorem add_any {a : Addr} {l : List Str} {k : Str} {u : Tok} {Q : Bool → Shared → Prop} (R : SetX P w s.heap a l) (hb : l.length + 1 < scanBound)
    (hQ : ∀ b h' l', Heap.SameBut a s.heap h' → SetX P w h' a l' → (∀ x, x ∈ l' ↔ x = k ∨ x ∈ l) → l'.length ≤ l.length + 1 → Q b { s with heap := h' }) :
    wpAny (model P w) A (setAddHashed a (.str k u) (hashStr w k)) Q E s := by
  obtain ⟨D, ho, F, nd, r, hl⟩ := R
  rcases Classical.em (k ∈ l) with hk | hk
  · obtain ⟨es, ep, t⟩ := D
    have hd : (sObj "set" (es, ep, t)).data = .set es ep t := rfl
    have hf : t.fits es.size = true := F.fit
    have hel : ElemsOf (PySem.strKind P w) es.toList := F.el
    have hb0 : es.size < scanBound := by
      have z : es.size = l.length := F.sz
      omega
    have hkey : (PySem.strKind P w).is k (.str k u) = true := is_str k u
    unfold setAddHashed setAddHashedIn
    refine wpAny_holding (wpAny_bind (wpAny_setState_of ho hd hf ?_))
    dsimp only
    rw [byScan_of rfl hb0 hel]
    simp only [↓reduceIte]
    unfold setAddByScan
    refine wpAny_bind ?_
    refine wpAny_bind (wpAny_rule ?_)
    refine wpAny_bind (wpAny_setScan_of (knd := PySem.strKind P w) (k := k) hkey ho hd hf hel ?_)
    cases hfi : List.findIdx? (fun e => (PySem.strKind P w).is k e.2) es.toList with
    | none =>
      obtain ⟨e, he, q⟩ := (F.mem k).mp hk
      have c := List.findIdx?_eq_none_iff.mp hfi e he
      rw [q] at c
      cases c
    | some j =>
      dsimp only
      refine wpAny_pure (wpAny_pure ?_)
      exact hQ _ s.heap l (Heap.SameBut.refl a s.heap) ⟨(es, ep, t), ho, F, nd, r, hl⟩ (fun x => ⟨.inr, fun z => z.elim (fun e => e ▸ hk) id⟩) (Nat.le_succ _)
  · refine add_x ho F hk hb (hQ _ _ (k :: l) (Heap.SameBut.update s.heap a _) ⟨_, get_upd _ ho rfl, add_ok u F, List.nodup_cons.mpr ⟨hk, nd⟩, add_ris _ _ r, ?_⟩ (fun x => List.mem_cons) (Nat.le_refl _))
    exact hl.imp id fun z => by
      rw [add_led]
      exact z
end

/-! ### set(xs): the loop -/
section
variable {P : Program} {w : World} {A : Around} {R : Result → Shared → Prop} {I : Addr} {fp wr : List Addr} {G : Array GenState → Array GenState → Prop} {n : Nat} {Pv : Nat → Value → Prop} {St : Nat → Shared → Prop}
theorem fill_loop (W : WalksS P w A.in1 I fp wr G n Pv St) (S : Addr) (hSf : S ∉ fp) (xs : List Str) (hn : xs.length = n) (hval : ∀ i v, Pv i v → ∃ t, v = .str (xs.getD i Str.empty) t) (hb : n + 1 < scanBound) :
    ∀ (k i : Nat) (s : Shared) (l : List Str), n - i = k → i ≤ n → St i s → SetX P w s.heap S l → (∀ x, x ∈ l ↔ x ∈ xs.take i) → l.length ≤ i →
      (∀ s' l', Moved (S :: wr) G s s' → SetX P w s'.heap S l' → (∀ x, x ∈ l' ↔ x ∈ xs) → l'.length ≤ n → R (.ok (.ret .none)) s') →
      codeAny (model P w) A (.builtin "set.update.loop" ⟨[.ref S, .ref I], []⟩) R s := by
  have hSw : S ∉ wr := fun h => hSf (W.sub _ h)
  have hsub : ∀ b ∈ wr, b ∈ S :: wr := fun b hb => List.mem_cons_of_mem _ hb
  intro k
  induction k with
  | zero =>
    intro i s l hk hi hst hS hm hlen hR
    have hin : i = n := by omega
    subst hin
    refine codeAny_builtin PyProof.Rows.F.entry_set_update_loop ?_
    rw [Around.under_plainId PyProof.Rows.F.plain_set_update_loop _]
    show wpAny _ A.in1 (pyNext (.ref I) >>= _) _ _ s
    refine wpAny_bind (W.done s _ _ hst fun s' hmv => ?_)
    show wpAny _ A.in1 (ret Value.none) _ _ s'
    refine wpAny_pure (hR s' l (hmv.mono hsub) (hS.at fun o e => hmv.heap S o hSw e) (fun x => ?_) hlen)
    rw [hm x, ← hn, List.take_length]
  | succ k ih =>
    intro i s l hk hi hst hS hm hlen hR
    have hlt : i < n := by omega
    refine codeAny_builtin PyProof.Rows.F.entry_set_update_loop ?_
    rw [Around.under_plainId PyProof.Rows.F.plain_set_update_loop _]
    show wpAny _ A.in1 (pyNext (.ref I) >>= _) _ _ s
    refine wpAny_bind (W.item i s _ _ hlt hst fun v s' hP hst' hmv => ?_)
    obtain ⟨t, rfl⟩ := hval i v hP
    have hS' : SetX P w s'.heap S l := hS.at fun o e => hmv.heap S o hSw e
    show wpAny _ A.in1 (holding [Value.str (xs.getD i Str.empty) t] (setAdd S (.str (xs.getD i Str.empty) t)) >>= _) _ _ s'
    refine wpAny_bind (wpAny_holding ?_)
    unfold setAdd
    refine wpAny_holding ?_
    refine wpAny_bind ((PySem.strKind P w).pyHash (k := xs.getD i Str.empty) (strKind_is _ _ _ _) ?_)
    have hroom : l.length + 1 < scanBound := by omega
    refine add_any (s := { s' with toks := s'.toks + 1 }) hS' hroom fun b h' l' hsb hS2 hm2 hl2 => ?_
    have hix : i < xs.length := by omega
    have eg : xs.getD i Str.empty = xs[i] := by
      rw [List.getD_eq_getElem?_getD, List.getElem?_eq_getElem hix]
      rfl
    have hm3 : ∀ x, x ∈ l' ↔ x ∈ xs.take (i + 1) := fun x => by
      rw [hm2 x, List.take_succ, List.getElem?_eq_getElem hix, eg]
      show _ ↔ x ∈ xs.take i ++ [xs[i]]
      rw [List.mem_append, List.mem_singleton, hm x]
      exact Or.comm
    refine wpAny_pure ⟨plainId_quiet PyProof.Rows.F.plain_set_update_loop _, ih (i + 1) _ l' (by omega) hlt (W.frame _ s' _ _ hst' (Nat.le_succ _) fun b hb o e => ?_) hS2 hm3 (by omega) fun s'' l'' hmv'' hS'' hm'' hl'' => ?_⟩
    · rw [hsb.2 b (fun h : b = S => hSf (by rw [← h]; exact hb))]
      exact e
    · refine hR s'' l'' (Moved.trans W.gtrans ((hmv.mono hsub).then_heap (Nat.le_succ _) fun b o hb e => ?_) hmv'') hS'' hm'' hl''
      rw [hsb.2 b (fun h : b = S => hb (by rw [h]; exact List.mem_cons_self))]
      exact e
end

/-! ### set(xs): the call -/
section
variable {P : Program} {w : World} {A : Around} {E : Value → Shared → Prop} {s : Shared}
abbrev emptyObj (w : World) : Obj := { cls := .type "set", dict := none, data := .set #[] 0 (.fresh 0 0 (!w.params.followText "set-order")) }
theorem str_at {us : List Value} {xs : List Str} (h : StrsAre us xs) : ∀ (i : Nat) (v : Value), us[i]? = some v → ∃ t, v = .str (xs.getD i Str.empty) t := by
  induction h with
  | nil =>
    intro i v e
    cases e
  | cons y t h ih =>
    intro i v e
    cases i with
    | zero =>
      have q : Value.str y t = v := Option.some.inj e
      exact ⟨t, q.symm⟩
    | succ i => exact ih i v e

set_option maxRecDepth 100000 in
set_option maxHeartbeats 4000000 in
/-- set(xs), xs a list or a tuple of texts -/
theorem call_set {l : Addr} {items : Array Value} {xs : List Str} {Q : Value → Shared → Prop} (hh : A.handled = none) (hl : s.heap.IsList l items ∨ s.heap.IsTuple l items) (hi : StrsAre items.toList xs) (hb : xs.length + 1 < scanBound)
    (h : ∀ (h' : Heap) (tk : Nat) (ys : List Str), SetX P w h' s.heap.objs.size ys → (∀ x, x ∈ ys ↔ x ∈ xs) → ys.length ≤ xs.length → (∀ b o, s.heap.get? b = some o → h'.get? b = some o) → Q (.ref s.heap.objs.size) { s with heap := h', toks := tk }) :
    wpAny (model P w) A (call (.type "set") [.ref l]) Q E s := by
  have hisz : xs.length = items.size := by rw [← StrsAre.len_eq hi, Array.length_toList]
  have hval : ∀ (i : Nat) (v : Value), items[i]? = some v → ∃ t, v = .str (xs.getD i Str.empty) t := fun i v hv => str_at hi i v (by rw [Array.getElem?_toList]; exact hv)
  obtain ⟨c, tl, hmro⟩ := PySem.F.called_set.mro
  have hmade := PySem.F.called_set.made
  have hsub := PySem.F.called_set.sub
  refine wpAny_call (codeAny_of_tree ?_)
  show wpAny _ _ (callAny (.type "set") _) _ _ _
  refine wpAny_pure ⟨Code.quiet_builtin _ (by decide +kernel), codeAny_builtin PySem.F.entry_type_call ?_⟩
  rw [Around.under_plain (weight_type_call_type "set" [.ref l] []) rfl]
  have h1 := PySem.F.called_set.notType
  have h2 := PySem.F.called_set.canCreate
  have hct := PySem.F.typeCall_set_1 (.ref l)
  repeat (any_goals (first | assumption | wp_step))
  refine codeAny_mono (code_set_led1 (.ref l) (E := E) (Q₁ := fun obj s₁ => obj = .ref s.heap.objs.size ∧ s₁ = { s with heap := s.heap.push (emptyObj w) }) ⟨rfl, rfl⟩) fun r s₁ hr => ?_
  cases r with
  | error e => exact hr
  | ok fl =>
    cases fl with
    | ret obj =>
      obtain ⟨rfl, rfl⟩ := hr
      have hS : (s.heap.push (emptyObj w)).get? s.heap.objs.size = some (emptyObj w) := Heap.get?_push_size _ rfl
      have hT : Shared.TypeIs { s with heap := s.heap.push (emptyObj w) } (.ref s.heap.objs.size) "set" := ⟨_, hS, rfl⟩
      have hli := PySem.F.called_set.init.lookup
      have hbi := PySem.F.called_set.init.bind (.ref s.heap.objs.size)
      repeat (any_goals (first | assumption | wp_step))
      refine codeAny_mono (codeAny_call_builtin (R := wants (fun r s₂ => r = .none ∧ ∃ h' tk ys, s₂ = { s with heap := h', toks := tk } ∧ SetX P w h' s.heap.objs.size ys ∧ (∀ x, x ∈ ys ↔ x ∈ xs) ∧ ys.length ≤ xs.length ∧
          (∀ b o, s.heap.get? b = some o → h'.get? b = some o)) E) PySem.F.called_set.init.plain PySem.F.entry_set_init (check_set_init_1 hT ?_)) fun r₂ s₂ hr₂ => ?_
      · have hh3 : A.in1.in1.in1.handled = none := by simp [hh]
        have hz1 : (s.heap.push (emptyObj w)).objs.size = s.heap.objs.size + 1 := Heap.size_push ..
        rcases hl with hl | hl
        · obtain ⟨ol, hol, hcl, nl, hdl⟩ := hl
          obtain ⟨ocls, odict, odata, oslots⟩ := ol
          simp only at hcl hdl
          subst hcl; subst hdl
          have hol' : (s.heap.push (emptyObj w)).get? l = some { cls := .type "list", dict := odict, data := .seq items nl, slots := oslots } := Heap.get?_push_of_some _ hol
          have hsls := PySem.F.sub_list_set
          have hslf := PySem.F.sub_list_frozenset
          have hne : (Value.type "list" == Value.type "dict") = false := by decide
          have hl1 : (s.heap.push (emptyObj w)).IsList l items := ⟨_, hol', rfl, nl, rfl⟩
          unfold Builtin.«set.__init__» noKeywords Builtin.Frozenset.updateFrom
          generalize hPI : pyIter = PI
          wp_walk
          subst hPI
          refine wpAny_pyIter_list hl1 ?_
          refine wpAny_bind (wpAny_runValue ?_)
          have hlS : l < s.heap.objs.size := Heap.lt_size hol
          have hneI : l ≠ (s.heap.push (emptyObj w)).objs.size := by
            rw [hz1]
            exact Nat.ne_of_lt (Nat.lt_succ_of_lt hlS)
          have hSf : s.heap.objs.size ∉ [(s.heap.push (emptyObj w)).objs.size, l] := by
            simp only [List.mem_cons, List.mem_singleton, List.not_mem_nil, or_false, not_or]
            rw [hz1]
            exact ⟨Nat.ne_of_lt (Nat.lt_succ_self _), Nat.ne_of_gt hlS⟩
          have hget : ((s.heap.push (emptyObj w)).push { cls := .type "list_iterator", data := .fields #[.ref l, .int 0 0] }).get? s.heap.objs.size = some (emptyObj w) := Heap.get?_push_of_some _ hS
          refine fill_loop ((Walks.list hh3 _ l hneI items).toS) s.heap.objs.size hSf xs hisz hval (by omega) (items.size - 0) 0 _ [] (by omega) (Nat.zero_le _)
            ⟨⟨_, Heap.get?_push_size _ rfl, rfl, rfl⟩, (hl1.push _)⟩ (setX_fresh hget) (fun x => Iff.rfl) (Nat.le_refl _) ?hR
          case hR =>
            intro s' ys hm hS' hmm hlen
            obtain ⟨h', g', d', tk', os'⟩ := s'
            have eg : g' = s.gens := hm.gens
            have ed : d' = s.drawn := hm.drawn
            have eo : os' = s.os := hm.os
            subst eg; subst ed; subst eo
            show wpAny _ _ _ _ _ _
            refine wpAny_pure ?_
            show wpAny _ _ (ret Value.none) _ _ _
            refine wpAny_pure ⟨rfl, h', tk', ys, rfl, hS', hmm, by omega, fun b o e => ?_⟩
            have hb0 : b < s.heap.objs.size := Heap.lt_size e
            refine hm.heap b o ?_ (Heap.get?_push_of_some _ (Heap.get?_push_of_some _ e))
            simp only [List.mem_cons, List.mem_singleton, List.not_mem_nil, or_false, not_or]
            rw [hz1]
            exact ⟨Nat.ne_of_lt hb0, Nat.ne_of_lt (Nat.lt_succ_of_lt hb0)⟩
        · obtain ⟨ol, hol, hcl, nl, hdl⟩ := hl
          obtain ⟨ocls, odict, odata, oslots⟩ := ol
          simp only at hcl hdl
          subst hcl; subst hdl
          have hol' : (s.heap.push (emptyObj w)).get? l = some { cls := .type "tuple", dict := odict, data := .seq items nl, slots := oslots } := Heap.get?_push_of_some _ hol
          have hsls := PySem.F.sub_tuple_set
          have hslf := PySem.F.sub_tuple_frozenset
          have hne : (Value.type "tuple" == Value.type "dict") = false := by decide
          have hl1 : (s.heap.push (emptyObj w)).IsTuple l items := ⟨_, hol', rfl, nl, rfl⟩
          unfold Builtin.«set.__init__» noKeywords Builtin.Frozenset.updateFrom
          generalize hPI : pyIter = PI
          wp_walk
          subst hPI
          refine wpAny_pyIter_tuple hl1 ?_
          refine wpAny_bind (wpAny_runValue ?_)
          have hlS : l < s.heap.objs.size := Heap.lt_size hol
          have hneI : l ≠ (s.heap.push (emptyObj w)).objs.size := by
            rw [hz1]
            exact Nat.ne_of_lt (Nat.lt_succ_of_lt hlS)
          have hSf : s.heap.objs.size ∉ [(s.heap.push (emptyObj w)).objs.size, l] := by
            simp only [List.mem_cons, List.mem_singleton, List.not_mem_nil, or_false, not_or]
            rw [hz1]
            exact ⟨Nat.ne_of_lt (Nat.lt_succ_self _), Nat.ne_of_gt hlS⟩
          have hget : ((s.heap.push (emptyObj w)).push { cls := .type "tuple_iterator", data := .fields #[.ref l, .int 0 0] }).get? s.heap.objs.size = some (emptyObj w) := Heap.get?_push_of_some _ hS
          refine fill_loop ((Walks.tuple hh3 _ l hneI items).toS) s.heap.objs.size hSf xs hisz hval (by omega) (items.size - 0) 0 _ [] (by omega) (Nat.zero_le _)
            ⟨⟨_, Heap.get?_push_size _ rfl, rfl, rfl⟩, (hl1.push _)⟩ (setX_fresh hget) (fun x => Iff.rfl) (Nat.le_refl _) ?hR
          case hR =>
            intro s' ys hm hS' hmm hlen
            obtain ⟨h', g', d', tk', os'⟩ := s'
            have eg : g' = s.gens := hm.gens
            have ed : d' = s.drawn := hm.drawn
            have eo : os' = s.os := hm.os
            subst eg; subst ed; subst eo
            show wpAny _ _ _ _ _ _
            refine wpAny_pure ?_
            show wpAny _ _ (ret Value.none) _ _ _
            refine wpAny_pure ⟨rfl, h', tk', ys, rfl, hS', hmm, by omega, fun b o e => ?_⟩
            have hb0 : b < s.heap.objs.size := Heap.lt_size e
            refine hm.heap b o ?_ (Heap.get?_push_of_some _ (Heap.get?_push_of_some _ e))
            simp only [List.mem_cons, List.mem_singleton, List.not_mem_nil, or_false, not_or]
            rw [hz1]
            exact ⟨Nat.ne_of_lt hb0, Nat.ne_of_lt (Nat.lt_succ_of_lt hb0)⟩
      · cases r₂ with
        | error e => exact hr₂
        | ok fl₂ =>
          cases fl₂ with
          | ret r =>
            obtain ⟨rfl, h', tk, ys, rfl, hS', hmm, hlen, hk'⟩ := hr₂
            repeat (any_goals (first | assumption | wp_step))
            exact h _ _ _ hS' hmm hlen hk'
          | _ => exact hr₂.elim
    | _ => exact hr.elim

/-! ### sorted(set) -/
theorem strs_of : ∀ (l : List Value), (∀ v ∈ l, ∃ k tk, v = Value.str k tk) → StrsAre l (l.map strOf)
  | [], _ => .nil
  | v :: l, h => by
    obtain ⟨k, tk, rfl⟩ := h v List.mem_cons_self
    exact .cons k tk (strs_of l fun u hu => h u (List.mem_cons_of_mem _ hu))
theorem sorted_setX {a : Addr} {l : List Str} {Q : Value → Shared → Prop} (R : SetX P w s.heap a l) (hh : A.handled = none) (hlen : l.length + 1 < scanBound)
    (hQ : ∀ s' p (out : Array Value) (c : Nat) (ys : List Str), (∀ b o, s.heap.get? b = some o → s'.heap.get? b = some o) → s'.gens = s.gens → s'.os = s.os → s.heap.objs.size ≤ p →
      s'.heap.get? p = some (seqObj "list" out c) → StrsAre out.toList ys → sortedS ys = true → ys.Perm l → Q (.ref p) s') :
    wpAny (model P w) A (call (.builtin "sorted") [.ref a]) Q E s := by
  obtain ⟨⟨es, ep, t⟩, ho, F, nd, r, hl⟩ := R
  have hf : t.fits es.size = true := F.fit
  have hsz : es.size = l.length := F.sz
  refine Calls.call_function_entry kind_sorted plain_sorted entry_sorted (args_sorted1 _) ?_
  unfold Builtin.«sorted»
  refine wpAny_bind (m := checkCount "sorted" 1 1 _) (wpAny_pure ?_)
  refine wpAny_bind (collect_set (A := A.in1) hh ⟨_, ho, rfl, rfl⟩ hf (by show es.size < scanBound; rw [hsz]; omega) r hl fun s1 vs k1 hz g1 o1 pm => ?_)
  have hvl : vs.length = l.length := by rw [pm.length_eq, List.length_map, Array.length_toList]; exact hsz
  have hst : ∀ v ∈ vs, ∃ k tk, v = Value.str k tk ∧ k ∈ l := fun v hv => by
    obtain ⟨e, he, q⟩ := List.mem_map.mp (pm.mem_iff.mp hv)
    obtain ⟨⟨k, h1, _⟩, _⟩ := F.el e he
    obtain ⟨tk, h2⟩ := Value.isStrOf_shape h1
    exact ⟨k, tk, by rw [← q]; exact h2, (F.mem k).mpr ⟨e, he, h1⟩⟩
  have hI : StrsAre vs (vs.map strOf) := strs_of vs fun v hv => let ⟨k, tk, e, _⟩ := hst v hv; ⟨k, tk, e⟩
  have pk : (vs.map strOf).Perm l := by
    refine (perm_of_sub l (vs.map strOf) nd (fun x hx => ?_) (by rw [List.length_map, hvl])).symm
    obtain ⟨e, he, h1⟩ := (F.mem x).mp hx
    obtain ⟨tk, h2⟩ := Value.isStrOf_shape h1
    exact List.mem_map.mpr ⟨e.2, pm.mem_iff.mpr (List.mem_map.mpr ⟨e, he, rfl⟩), by rw [h2]; rfl⟩
  have hline : vs.length ≤ sizeLine := by
    rw [hvl, sizeLine_eq]
    have z : scanBound = 4096 := rfl
    omega
  refine wpAny_bind (wpAny_newList ?_ hline)
  have hoL : (s1.heap.push (seqObj "list" vs.toArray 0)).get? s1.heap.objs.size = some (seqObj "list" vs.toArray 0) := Heap.get?_push_size _ rfl
  refine wpAny_bind (wpAny_holding (wpAny_call_entry slot_list_sort ⟨_, hoL, rfl⟩ entry_list_sort (list_sort_treeKAny strKind_oneLt hoL hI.keysOf (fun v₁ v₂ rest e => keyKind_strs (by rw [← e]; exact hI)) hline fun st' hp hs => ⟨_, rfl, ?_⟩) (args_list_sort _)))
  obtain ⟨ys, a1, a2, a3⟩ := sorted_out_str hI hp hs
  obtain ⟨c, hc⟩ := sortedHeap_at (vs := vs) (out := (arrOf st').map (·.2)) hoL
  refine wpAny_pure ⟨_, rfl, hQ _ s1.heap.objs.size _ c ys (fun b u e => ?_) g1 o1 hz hc a1 a3 (a2.trans pk)⟩
  have q := k1 b u e
  have hlt := Heap.lt_size q
  show (sortedHeap (s1.heap.push (seqObj "list" vs.toArray 0)) s1.heap.objs.size vs _).get? b = some u
  rw [sortedHeap_old (Nat.ne_of_lt hlt) (by rw [size_push']; exact Nat.lt_succ_of_lt hlt)]
  exact Heap.get?_push_of_some _ q
end

/-! ### over the layer -/
def SetV (P : Program) (w : World) (a : Addr) (l : List Str) : HO := .ext fun h => SetX P w h a l
section
variable {X : Cx}
theorem setV_new {P : Program} {w : World} {H : Hp} {h : Heap} {a : Addr} {l : List Str} (R : SetX P w h a l) : ObjOk P w H h a (SetV P w a l) := by
  have ⟨o, ho, _⟩ := R
  exact ⟨R, ⟨_, ho⟩, fun h1 h2 p k => SetX.at p k⟩
/-- set(xs), xs a list or a tuple of texts -/
def rSetX (K : PySem.W.Frag) (P : Program) (w : World) : List V → Hp → VK → Prop := fun vs H Q => ∃ (a : Addr) (xs : List Str), vs = [V.ref a] ∧ (SqL K H a (xs.map V.str) ∨ SqT K H a (xs.map V.str)) ∧ xs.length < 4000 ∧
  ∀ p ys, H p = none → (∀ x, x ∈ ys ↔ x ∈ xs) → ys.Nodup → ys.length ≤ xs.length → Q (.ref p) (upd H p (SetV P w p ys))
theorem cr_setX (hc : X.calm = true) : CallR X (.type "set") (rSetX X.K X.prog X.w) := by
  intro pins s σ H vs us Q I r h
  obtain ⟨a, xs, rfl, hs, hlen, q⟩ := h
  rw [Vals.ref1 r]
  have hn : H s.heap.objs.size = none := I.hok.fresh (Nat.le_refl _)
  have hz : xs.length + 1 < scanBound := by
    have z : scanBound = 4096 := rfl
    omega
  obtain ⟨its, rv, pl⟩ : ∃ its : List Value, Vals (xs.map V.str) its ∧ (s.heap.IsList a its.toArray ∨ s.heap.IsTuple a its.toArray) := by
    rcases hs with hs | hs
    · obtain ⟨its, rv, pl, _⟩ := I.list hs
      exact ⟨its, rv, .inl pl.isList⟩
    · obtain ⟨its, rv, pl, _⟩ := I.tuple hs
      exact ⟨its, rv, .inr pl⟩
  refine call_set (P := X.prog) (w := X.w) (I.ok.hd hc) pl (by simpa using rv.strs) hz fun h' tk ys R hm hl k => ?_
  have nd : ys.Nodup := by
    obtain ⟨_, _, _, z, _⟩ := R
    exact z
  exact ⟨.ref s.heap.objs.size, upd H s.heap.objs.size (SetV X.prog X.w s.heap.objs.size ys), I.laid (t' := tk) k (Nat.le_refl _) (setV_new R), rfl, q _ ys hn hm nd hl⟩
/-- sorted(a set of texts) -/
def rSortX (P : Program) (w : World) : List V → Hp → VK → Prop := fun vs H Q => ∃ (a : Addr) (l : List Str), vs = [V.ref a] ∧ H a = some (SetV P w a l) ∧ l.length < 4000 ∧
  ∀ ys p, ys.Perm l → sortedS ys = true → H p = none → Q (.ref p) (upd H p (.lst (ys.map V.str)))
theorem cr_sortX (hc : X.calm = true) : CallR X (.builtin "sorted") (rSortX X.prog X.w) := by
  intro pins s σ H vs us Q I r h
  obtain ⟨a, l, rfl, ha, hlen, q⟩ := h
  have R : SetX X.prog X.w s.heap a l := (I.hok a _ ha).1
  rw [Vals.ref1 r]
  have hz : l.length + 1 < scanBound := by
    have z : scanBound = 4096 := rfl
    omega
  refine sorted_setX R (I.ok.hd hc) hz fun s' p out c ys k g o hp hg hi hs pm => ?_
  have hl2 : (ys.map V.str).length ≤ sizeLine := by
    rw [List.length_map, pm.length_eq, sizeLine_eq]
    omega
  have hn : H p = none := I.hok.fresh hp
  have J : Inv X pins σ (upd H p (.lst (ys.map V.str))) { s with heap := s'.heap, gens := s'.gens, drawn := s'.drawn, toks := s'.toks } :=
    I.call (ch := []) (Un.laid k hp hn) (I.hok.laid k hp ⟨hl2, out.toList, c, vals_of_strs hi, hg⟩) (by rw [g]; exact I.bare) (fun _ z => nomatch z)
  have e : s' = { s with heap := s'.heap, gens := s'.gens, drawn := s'.drawn, toks := s'.toks } := by
    cases s'
    cases s
    cases o
    rfl
  rw [e]
  exact ⟨.ref p, _, J, rfl, q ys p pm hs hn⟩
end
end Sx
/-! Calls of the module's own defs by their promises, walks over a list or a tuple, data that stays. -/
namespace Bx
open PySem PySem.Spec PyProof.Rows L2 TL

/-- the module's name x holds a def that keeps sp, by at most level k -/
structure Cal (P : Program) (w : World) (K : PySem.W.Frag) (mg : Str → Option Value) (base : Heap) (x : Str) (k : Nat) (ps : List Str) (sp : Sp) : Prop where
  ex : ∃ (f : Addr) (fd : FuncData), FnOk P w K mg base CX0 k f fd ps sp ∧ mg x = some (.ref f) ∧ PySem.W.keepIn K (.ref f) = true ∧ Binds K fd ps []
/-- the same of a def with a star parameter alone -/
structure CalR (P : Program) (w : World) (K : PySem.W.Frag) (mg : Str → Option Value) (base : Heap) (x : Str) (k : Nat) (sp : Sp) : Prop where
  ex : ∃ f : Addr, FnR P w K mg base CX0 k f sp ∧ mg x = some (.ref f) ∧ PySem.W.keepIn K (.ref f) = true
section
variable {X : Cx} {x : Str} {k : Nat} {ps : List Str} {sp : Sp} {e : Expr} {es : List Expr} {t : TA} {p pos : Pos}
def tCal (sp : Sp) (t : TA) : TE := fun σ H Q => t σ H fun vs H1 => sp vs H1 Q E0
theorem pe_cal (c : Cal X.prog X.w X.K X.mg X.base x k ps sp) (hr : Room k X.A) (ha : PA X (e :: es) t) (hg : Gl X x := by rfl) (hdb : (x == ("__debug__" : Str)) = false := by decide)
    (he : starEach (e :: es) X.env = (false, eval e X.env) :: starEach es X.env := by rfl) (hpl : (backTo pos (starEach es X.env)).any (·.1) = false := by rfl) : PE X (.Call (.Name x p) (e :: es) [] pos) (tCal sp t) := by
  obtain ⟨f, fd, ok, g, kp, b⟩ := c.ex
  have z := pe_call (E := E0) ok hr hg g kp b .nil pass0 ha hdb he hpl (p := p)
  refine ⟨fun pins s σ H Q I h => z.run pins s σ H Q I ?_⟩
  unfold tCall
  simp only [List.append_nil]
  exact h
theorem pe_cal0 (c : Cal X.prog X.w X.K X.mg X.base x k ps sp) (hr : Room k X.A) (hg : Gl X x := by rfl) (hdb : (x == ("__debug__" : Str)) = false := by decide) : PE X (.Call (.Name x p) [] [] pos) (tCal sp tNil) := by
  obtain ⟨f, fd, ok, g, kp, b⟩ := c.ex
  have z := pe_call0 (E := E0) (pos := pos) ok hr hg g kp b .nil pass0 hdb (p := p)
  refine ⟨fun pins s σ H Q I h => z.run pins s σ H Q I ?_⟩
  exact h
theorem pe_calR (c : CalR X.prog X.w X.K X.mg X.base x k sp) (hr : Room k X.A) (ha : PA X (e :: es) t) (hg : Gl X x := by rfl) (hdb : (x == ("__debug__" : Str)) = false := by decide)
    (he : starEach (e :: es) X.env = (false, eval e X.env) :: starEach es X.env := by rfl) (hpl : (backTo pos (starEach es X.env)).any (·.1) = false := by rfl) : PE X (.Call (.Name x p) (e :: es) [] pos) (tCal sp t) := by
  obtain ⟨f, ok, g, kp⟩ := c.ex
  refine ⟨fun pins s σ H Q I h => ?_⟩
  refine wpAny_Call_Name_kw (ld_glob I hg g ?_ hdb)
  refine PySem.W.callWith_K (h₀ := X.base) I.ok.mod.kin kp (thn (ha.run pos pins s σ H _ I h) fun us s1 ⟨vs, H1, I1, r, q⟩ => ⟨I1.kIn, ?_⟩) he hpl
  exact wpAny_call (run_fnR ok hr pass0 I1 r q)
theorem pe_calR0 (c : CalR X.prog X.w X.K X.mg X.base x k sp) (hr : Room k X.A) (hg : Gl X x := by rfl) (hdb : (x == ("__debug__" : Str)) = false := by decide) : PE X (.Call (.Name x p) [] [] pos) (tCal sp tNil) := by
  obtain ⟨f, ok, g, kp⟩ := c.ex
  refine ⟨fun pins s σ H Q I h => ?_⟩
  refine wpAny_Call_Name_kw (ld_glob I hg g ?_ hdb)
  exact PySem.W.callWith_K0 I.kIn kp (wpAny_call (run_fnR ok hr pass0 I .nil h))

/-- x(*y) -/
theorem pe_calS {te : TE} {sp_ : Pos} (c : CalR X.prog X.w X.K X.mg X.base x k sp) (hr : Room k X.A) (he : PE X e te) (hg : Gl X x := by rfl) (hdb : (x == ("__debug__" : Str)) = false := by decide) (hst : starEach [.Starred e sp_] X.env = [(true, eval e X.env)] := by rfl) :
    PE X (.Call (.Name x p) [.Starred e sp_] [] pos) (fun σ H Q => te σ H fun y H1 => ∃ a xs, y = V.ref a ∧ (SqT X.K H1 a xs ∨ SqL X.K H1 a xs) ∧ sp xs H1 Q E0) := by
  obtain ⟨f, ok, g, kp⟩ := c.ex
  exact StX.pe_callS1 ok hr kp hg g pass0 he hdb hst

/-- a walk over a list or a tuple -/
def SeqCase (K : PySem.W.Frag) (a : Addr) (H : Hp) (R : It → Hp → Prop) : Prop := ((∃ xs, SqL K H a xs) ∧ R (Itl K a) H) ∨ ((∃ xs, SqT K H a xs) ∧ R (Itt K a) H)
def iSeq (K : PySem.W.Frag) (tl : TE) : TI := fun σ H R => tl σ H fun x H1 => ∃ a, x = .ref a ∧ SeqCase K a H1 R
theorem pi_seq {tg l : Expr} {tl : TE} (hl : PE X l tl) : PI X tg l (iSeq X.K tl) := by
  refine ⟨fun pins s σ H R I h => ?_⟩
  refine thn (hl.run pins s σ H _ I h) fun v s1 ⟨x, H1, I1, r1, q1⟩ => ?_
  obtain ⟨a, e, q1⟩ := q1
  subst e
  cases r1
  rcases q1 with ⟨⟨xs, hq⟩, q⟩ | ⟨⟨xs, hq⟩, q⟩
  · obtain ⟨its, rv, p, hz⟩ := I1.list hq
    refine wpAny_pyIter_list p.isList ?_
    exact pi_one (tk := s1.toks) I1 _ (turn_list a _) ⟨_, Heap.get?_push_size _ rfl, rfl, rfl⟩ q
  · obtain ⟨its, rv, p, hz⟩ := I1.tuple hq
    refine wpAny_pyIter_tuple (show s1.heap.IsTuple a its.toArray from p) ?_
    exact pi_one (tk := s1.toks) I1 _ (turn_tuple a _) ⟨_, Heap.get?_push_size _ rfl, rfl, rfl⟩ q
end

/-! ### rules with the written part named (within a block) -/
section
variable {X : Cx} {K : PySem.W.Frag}
theorem ix_listK (h : X.K = K) : IxR X (rIxL K) := h ▸ ix_list
theorem ix_tupK (h : X.K = K) : IxR X (rIxT K) := h ▸ ix_tup
theorem op_in_seqK (h : X.K = K) : OpR X (compareOp .In) (rIn K false) := h ▸ op_in_seq
theorem call_list_ofK (h : X.K = K) : CallR X (.type "list") (fun xs H Q => ∃ p ys, xs = [.ref p] ∧ (SqL K H p ys ∨ SqT K H p ys) ∧ ∀ l, H l = none → Q (.ref l) (upd H l (.lst ys))) := by
  subst h
  exact call_list_of
theorem call_tuple_ofK (h : X.K = K) : CallR X (.type "tuple") (fun xs H Q => ∃ p ys, xs = [.ref p] ∧ ((SqL K H p ys ∧ ∀ l, H l = none → Q (.ref l) (upd H l (.tup ys))) ∨ (SqT K H p ys ∧ Q (.ref p) H))) := by
  subst h
  exact call_tuple_of
theorem call_len_seqK (h : X.K = K) : CallR X (.builtin "len") (fun xs H Q => ∃ p ys, xs = [.ref p] ∧ (SqL K H p ys ∨ SqT K H p ys) ∧ Q (.int ys.length) H) := by
  subst h
  exact call_len_seq
theorem cr_allK (h : X.K = K) (hc : X.calm = true) : CallR X (.builtin "all") (rAll K) := by
  subst h
  exact cr_all hc
theorem pg_tupK {es : List Expr} {k : Nat} {t : TGs} {n : Nat} {pos : Pos} (h : X.K = K) (hc : X.calm = true) (hs : PGs X es t)
    (hn : (assignEach es X.env).length = n := by rfl) (hst : (assignEach es X.env).findIdx? (·.1) = none := by rfl) : PG X (.Tuple es k pos) (gTup K n t) := by
  subst h
  exact pg_tup hc hs hn hst
theorem op_notIn_seqK (h : X.K = K) : OpR X (compareOp .NotIn) (rIn K true) := h ▸ op_notIn_seq
end

/-! ### heaps -/
theorem same_new {H : Hp} {p : Addr} {o : HO} (h : H p = none) : Same H (upd H p o) := fun b x e => by
  rw [upd_ne (ne_of_none e h)]
  exact e
theorem same_at {H H2 : Hp} {p : Addr} {o : HO} (h : H p = none) (s : Same H H2) : Same H (upd H2 p o) := fun b x e => by
  rw [upd_ne (ne_of_none e h)]
  exact s b x e
theorem Same.tup {K : PySem.W.Frag} {H H' : Hp} {a : Addr} {xs : List V} (e : Same H H') (h : SqT K H a xs) : SqT K H' a xs := by
  rcases h with (h | ⟨o, h⟩) | h
  · exact .inl (.inl (e _ _ h))
  · exact .inl (.inr ⟨o, e _ _ h⟩)
  · exact .inr h
theorem sq {K : PySem.W.Frag} {H : Hp} {a : Addr} {xs : List V} (h : H a = some (.lst xs)) : SqL K H a xs := Or.inl (Or.inl h)
theorem sqt {K : PySem.W.Frag} {H : Hp} {a : Addr} {xs : List V} (h : H a = some (.tup xs)) : SqT K H a xs := Or.inl (Or.inl h)
/-- all that was tracked but a is as it was -/
def SameBut (a : Addr) (H H' : Hp) : Prop := ∀ b o, b ≠ a → H b = some o → H' b = some o
theorem SameBut.refl (a : Addr) (H : Hp) : SameBut a H H := fun _ _ _ h => h
theorem SameBut.trans {a : Addr} {H H1 H2 : Hp} (x : SameBut a H H1) (y : SameBut a H1 H2) : SameBut a H H2 := fun b o n h => y b o n (x b o n h)
theorem Same.but {a : Addr} {H H' : Hp} (x : Same H H') : SameBut a H H' := fun b o _ h => x b o h
theorem SameBut.upd {a : Addr} {H : Hp} {o : HO} : SameBut a H (upd H a o) := fun b x n h => by
  rw [upd_ne n]
  exact h
/-- new objects do not disturb: what was tracked at H, where a was not -/
theorem SameBut.same {a : Addr} {H H1 H2 : Hp} (x : Same H H1) (n : H a = none) (y : SameBut a H1 H2) : Same H H2 := fun b o h => y b o (ne_of_none h n) (x b o h)
theorem sz {n : Nat} (h : n ≤ 100000) : n ≤ sizeLine := Nat.le_trans h (by decide)
theorem szl {n : Nat} (h : n < 100000) : n < sizeLine := Nat.lt_of_lt_of_le h (by decide)
/-- the source of draws at a -/
def Src (H : Hp) (a : Addr) : Prop := ∃ n c : Int, H a = some (.lst [.int n, .int c])

/-! ### data -/
mutual
theorem dp_same {K : PySem.W.Frag} {H H' : Hp} (e : Same H H') : ∀ {v : V} {d : PyData}, Dp K H v d → Dp K H' v d
  | _, _, .non => .non
  | _, _, .bl b => .bl b
  | _, _, .int i => .int i
  | _, _, .str x => .str x
  | _, _, .lst h a => .lst (e.seq h) (dpAll_same e a)
  | _, _, .tup h a => .tup (Bx.Same.tup e h) (dpAll_same e a)
theorem dpAll_same {K : PySem.W.Frag} {H H' : Hp} (e : Same H H') : ∀ {vs : List V} {ds : List PyData}, DpAll K H vs ds → DpAll K H' vs ds
  | _, _, .nil => .nil
  | _, _, .cons h a => .cons (dp_same e h) (dpAll_same e a)
end
theorem dp_strs {K : PySem.W.Frag} {H : Hp} : ∀ ys : List Str, DpAll K H (ys.map V.str) (ys.map PyData.str)
  | [] => .nil
  | y :: ys => .cons (.str y) (dp_strs ys)
theorem dp_ints {K : PySem.W.Frag} {H : Hp} : ∀ ys : List Int, DpAll K H (ys.map V.int) (ys.map PyData.int)
  | [] => .nil
  | y :: ys => .cons (.int y) (dp_ints ys)
theorem dp_map {K : PySem.W.Frag} {H : Hp} {α : Type} {f : α → V} {g : α → PyData} : ∀ {l : List α}, (∀ x ∈ l, Dp K H (f x) (g x)) → DpAll K H (l.map f) (l.map g)
  | [], _ => .nil
  | x :: l, h => .cons (h x List.mem_cons_self) (dp_map fun y hy => h y (List.mem_cons_of_mem _ hy))

/-! ### walks with any body -/
theorem walk_any {J : It} {n : Nat} {G : Hp → Prop} {Y : Nat → Hp → V → Hp → Prop} (w : Walk J n G Y) {Z : Hp → Prop} {B : (Hp → Prop) → V → Hp → Prop} {H0 : Hp} (Pv : Nat → Hp → Prop) (h0 : Pv 0 H0) (hG : ∀ i H, i ≤ n → Pv i H → G H)
    (hs : ∀ i x H H', i < n → Pv i H → Y i H x H' → B (Pv (i + 1)) x H') (hd : ∀ H, Pv n H → Z H) :
    ∃ W : Nat → Nat → Hp → Prop, (∃ m, W 0 m H0) ∧ ∀ i m H, W i m H → (J.stop i H ∧ Z H) ∨ (J.go i H ∧ ∃ Nx : Hp → Prop, (∀ H', Nx H' → ∃ m', m' < m ∧ W (i + 1) m' H') ∧ ∀ x H', J.yld i H x H' → B Nx x H') := by
  refine ⟨fun i m H => m = n - i ∧ i ≤ n ∧ Pv i H, ⟨n, by simp, Nat.zero_le _, h0⟩, ?_⟩
  rintro i m H ⟨rfl, hi, p⟩
  have q := hG i H hi p
  by_cases hlt : i < n
  · exact .inr ⟨w.goes i H hlt q, Pv (i + 1), fun H' p' => ⟨n - (i + 1), by omega, rfl, hlt, p'⟩, fun x H' y => hs i x H H' hlt p (w.yields i H x H' hlt q y)⟩
  · have e : i = n := by omega
    subst e
    exact .inl ⟨w.stops H q, hd H p⟩

/-! ### a def with a star parameter alone -/
theorem okStar {P : Program} {w : World} {K : PySem.W.Frag} {mg : Str → Option Value} {base : Heap} {x qual pn : Str} {st : Stmt} {f : Addr} {fd : FuncData} {N : List Str} {k : Nat} {sp : Sp} (F : Fun K x qual st f fd) (S : FnScope N [pn] (defScope st))
    (hb : ∀ (kV doc pm : Value) (an : Option Addr) (cdv ct : Value) (rest : List Value), bindArgs (PySem.W.fnOf x qual (defArgs st) (defBody st) (defScope st) .none kV doc pm an cdv ct) ⟨rest, []⟩ = (newTuple rest >>= fun t => pure [(pn, t)]))
    (hbody : ∀ (cdv : Value) (A : Around) (outer : List Env) (s : Shared) (H : Hp) (vs : List V) (Q : VK) (E : XK), Room k (A.deeper (envOfC qual (defScope st) s.heap.objs.size f cdv)) → sp vs H Q E →
      ∃ t, PSs (cxOf CX0 P w K mg base N qual (defScope st) f cdv A outer s H E) (defBody st) t ∧ t { nx := fun _ H' => Q .non H', rt := Q } (start N vs) H) :
    FnR P w K mg base CX0 (k + 1) f (fun vs H Q E => vs.length ≤ sizeLine ∧ ∀ p, H p = none → sp [V.ref p] (upd H p (.tup vs)) Q E) := by
  obtain ⟨oc, od, kV, doc, pm, an, cdv, ct, osl, rfl, lk, hcd⟩ := F.ex
  have z := StX.fn_star (P := P) (w := w) (K := K) (mg := mg) (base := base) (CX := CX0) (ps := []) (sp := sp) lk hcd S StX.cxUp_none (fun us rest hl => by
    have e : us = [] := List.length_eq_zero_iff.mp hl
    subst e
    exact hb kV doc pm an cdv ct rest) (hbody cdv)
  exact z.imp fun vs H Q E h => ⟨[], vs, rfl, rfl, h.1, h.2⟩

/-- one parameter ahead of the star -/
theorem okStar1 {P : Program} {w : World} {K : PySem.W.Frag} {mg : Str → Option Value} {base : Heap} {x qual p1 pn : Str} {st : Stmt} {f : Addr} {fd : FuncData} {N : List Str} {k : Nat} {sp : Sp} (F : Fun K x qual st f fd) (S : FnScope N [p1, pn] (defScope st))
    (h0 : ∀ (kV doc pm : Value) (an : Option Addr) (cdv ct a : Value), bindArgs (PySem.W.fnOf x qual (defArgs st) (defBody st) (defScope st) .none kV doc pm an cdv ct) ⟨[a], []⟩ = (newTuple [] >>= fun t => pure [(p1, a), (pn, t)]))
    (h1 : ∀ (kV doc pm : Value) (an : Option Addr) (cdv ct a r : Value) (rs : List Value), bindArgs (PySem.W.fnOf x qual (defArgs st) (defBody st) (defScope st) .none kV doc pm an cdv ct) ⟨a :: r :: rs, []⟩ = (newTuple (r :: rs) >>= fun t => pure [(p1, a), (pn, t)]))
    (hbody : ∀ (cdv : Value) (A : Around) (outer : List Env) (s : Shared) (H : Hp) (vs : List V) (Q : VK) (E : XK), Room k (A.deeper (envOfC qual (defScope st) s.heap.objs.size f cdv)) → sp vs H Q E →
      ∃ t, PSs (cxOf CX0 P w K mg base N qual (defScope st) f cdv A outer s H E) (defBody st) t ∧ t { nx := fun _ H' => Q .non H', rt := Q } (start N vs) H) :
    FnR P w K mg base CX0 (k + 1) f (fun vs H Q E => ∃ v rest, vs = v :: rest ∧ rest.length ≤ sizeLine ∧ ∀ p, H p = none → sp [v, V.ref p] (upd H p (.tup rest)) Q E) := by
  obtain ⟨oc, od, kV, doc, pm, an, cdv, ct, osl, rfl, lk, hcd⟩ := F.ex
  have z := StX.fn_star (P := P) (w := w) (K := K) (mg := mg) (base := base) (CX := CX0) (ps := [p1]) (sp := sp) lk hcd S StX.cxUp_none
    (StX.bind_star1 (B := fun us => bindArgs (PySem.W.fnOf x qual (defArgs st) (defBody st) (defScope st) .none kV doc pm an cdv ct) ⟨us, []⟩) (h0 kV doc pm an cdv ct) (h1 kV doc pm an cdv ct)) (hbody cdv)
  exact z.imp fun vs H Q E ⟨v, rest, e, hl, h⟩ => ⟨[v], rest, e, rfl, hl, h⟩

/-! ### a walk over a list or a tuple, told once -/
theorem seq_case {K : PySem.W.Frag} {H : Hp} {a : Addr} {xs : List V} {R : It → Hp → Prop} (h : SqL K H a xs ∨ SqT K H a xs) (k : ∀ (J : It) (G : Hp → Prop), Walk J xs.length G (YAt xs) → (∀ H', Same H H' → G H') → R J H) : SeqCase K a H R := by
  rcases h with h | h
  · exact .inl ⟨⟨_, h⟩, k _ _ walk_list fun H' s => s.seq h⟩
  · exact .inr ⟨⟨_, h⟩, k _ _ walk_tup fun H' s => Bx.Same.tup s h⟩
theorem at_map {α : Type} {l : List α} {f : α → V} {i : Nat} {x : V} (h : (l.map f)[i]? = some x) : ∃ y, l[i]? = some y ∧ x = f y := by
  rw [List.getElem?_map] at h
  cases e : l[i]? with
  | none =>
    rw [e] at h
    cases h
  | some y =>
    rw [e] at h
    exact ⟨y, rfl, (Option.some.inj h).symm⟩

/-! ### texts in ascending order -/
theorem rising_at : ∀ (p : Str) (r : List Str), risingS p r = true → ∀ (k : Nat) (x y : Str), (p :: r)[k]? = some x → (p :: r)[k + 1]? = some y → ltCps y.cps.toList x.cps.toList = false
  | p, [], _, k, x, y, _, h2 => by
    simp at h2
  | p, q :: r, h, k, x, y, h1, h2 => by
    have h3 : (!ltCps q.cps.toList p.cps.toList && risingS q r) = true := h
    rw [Bool.and_eq_true] at h3
    cases k with
    | zero =>
      have e1 : p = x := Option.some.inj h1
      have e2 : q = y := Option.some.inj h2
      rw [← e1, ← e2]
      simpa using h3.1
    | succ k => exact rising_at q r h3.2 k x y h1 h2
theorem sorted_at {l : List Str} (h : sortedS l = true) (nd : l.Nodup) {k : Nat} {x y : Str} (h1 : l[k]? = some x) (h2 : l[k + 1]? = some y) : x.cps.toList < y.cps.toList := by
  cases l with
  | nil => cases h1
  | cons p r =>
    have a := rising_at p r h k x y h1 h2
    rw [ltCps_eq] at a
    refine Std.lt_of_le_of_ne (of_decide_eq_false a) fun e => ?_
    have e2 : x = y := ext_tl e
    obtain ⟨i1, e3⟩ := List.getElem?_eq_some_iff.mp h1
    obtain ⟨i2, e4⟩ := List.getElem?_eq_some_iff.mp h2
    have z := List.pairwise_iff_getElem.mp nd k (k + 1) i1 i2 (Nat.lt_succ_self k)
    exact z (e3.trans (e2.trans e4.symm))

/-! ### membership of texts -/
theorem inV_str (x : Str) (ys : List Str) : inV (.str x) (ys.map V.str) = decide (x ∈ ys) := by
  unfold inV
  rw [List.any_map]
  induction ys with
  | nil => rfl
  | cons y ys ih =>
    rw [List.any_cons, ih]
    show ((y == x) || _) = _
    by_cases e : y = x
    · subst e
      simp
    · have e2 : (y == x) = false := by simpa using e
      rw [e2, Bool.false_or]
      by_cases h : x ∈ ys
      · rw [decide_eq_true h, decide_eq_true (List.mem_cons_of_mem _ h)]
      · rw [decide_eq_false h, decide_eq_false (fun z => (List.mem_cons.mp z).elim (fun z => e z.symm) h)]
theorem flat_all (ys : List Str) : (ys.map V.str).all flatV = true := by
  rw [List.all_map, List.all_eq_true]
  intro y _
  rfl
theorem lay_strs : ∀ ys : List Str, (∀ y ∈ ys, PyData.strOk y = true) → PyData.canLayAll0 (ys.map PyData.str) = true ∧ PyData.depthAll (ys.map PyData.str) ≤ 1
  | [], _ => ⟨rfl, by decide⟩
  | y :: ys, h => by
    obtain ⟨a, b⟩ := lay_strs ys fun z hz => h z (List.mem_cons_of_mem _ hz)
    constructor
    · show (PyData.strOk y && PyData.canLayAll0 (ys.map PyData.str)) = true
      rw [a, h y List.mem_cons_self]
      rfl
    · show max (PyData.depth (.str y)) (PyData.depthAll (ys.map PyData.str)) ≤ 1
      exact Nat.max_le.mpr ⟨by first | exact Nat.zero_le _ | decide | exact Nat.le_refl _, b⟩
theorem lay_lists : ∀ L : List (List Str), (∀ ys ∈ L, ∀ y ∈ ys, PyData.strOk y = true) → PyData.canLayAll0 (L.map fun ys => PyData.list (ys.map PyData.str)) = true ∧ PyData.depthAll (L.map fun ys => PyData.list (ys.map PyData.str)) ≤ 2
  | [], _ => ⟨rfl, by decide⟩
  | ys :: L, h => by
    obtain ⟨a, b⟩ := lay_lists L fun z hz => h z (List.mem_cons_of_mem _ hz)
    obtain ⟨c, d⟩ := lay_strs ys (h ys List.mem_cons_self)
    constructor
    · show (PyData.canLayAll0 (ys.map PyData.str) && PyData.canLayAll0 (L.map fun ys => PyData.list (ys.map PyData.str))) = true
      rw [a, c]
      rfl
    · show max (PyData.depthAll (ys.map PyData.str) + 1) (PyData.depthAll (L.map fun ys => PyData.list (ys.map PyData.str))) ≤ 2
      exact Nat.max_le.mpr ⟨by omega, b⟩

/-! ### signs of a written text -/
theorem pick {L : Str} {r : Int} (h0 : 0 ≤ r) (h1 : r < (tl L).length) : ∃ c, atI L.cps.toList r = some c ∧ c ∈ tl L := by
  obtain ⟨n, rfl⟩ := Int.eq_ofNat_of_zero_le h0
  have hn : n < (tl L).length := by omega
  exact ⟨(tl L)[n], atI_nat (List.getElem?_eq_getElem hn), List.getElem_mem hn⟩
end Bx
/-! Data that stands in the heap, beside objects that change; rules told of data. -/
namespace Dx
open PySem PySem.Spec PyProof.Rows L2 Bx TL

/-! ### the heap without some addresses -/
def mn (H : Hp) (S : List Addr) : Hp := fun b => if b ∈ S then none else H b
theorem mn_in {H : Hp} {S : List Addr} {b : Addr} (h : b ∈ S) : mn H S b = none := if_pos h
theorem mn_out {H : Hp} {S : List Addr} {b : Addr} (h : b ∉ S) : mn H S b = H b := if_neg h
theorem mn_same {H : Hp} {S : List Addr} : Same (mn H S) H := fun b o e => by
  by_cases h : b ∈ S
  · rw [mn_in h] at e
    cases e
  · rw [mn_out h] at e
    exact e
theorem mn_nil {H : Hp} : mn H [] = H := funext fun b => mn_out (by simp)
theorem mn_sub {H : Hp} {S T : List Addr} (h : ∀ b, b ∈ S → b ∈ T) : Same (mn H T) (mn H S) := fun b o e => by
  by_cases h1 : b ∈ T
  · rw [mn_in h1] at e
    cases e
  · rw [mn_out h1] at e
    rw [mn_out fun z => h1 (h b z)]
    exact e
theorem mn_upd {H : Hp} {S : List Addr} {a : Addr} {o : HO} (h : a ∈ S) : mn (upd H a o) S = mn H S := funext fun b => by
  by_cases h1 : b ∈ S
  · rw [mn_in h1, mn_in h1]
  · rw [mn_out h1, mn_out h1, upd_ne (show b ≠ a from fun z => h1 (by rw [z]; exact h))]
theorem mn_new {H : Hp} {S : List Addr} {p : Addr} {o : HO} (h : H p = none) : Same (mn H S) (mn (upd H p o) S) := fun b u e => by
  by_cases h1 : b ∈ S
  · rw [mn_in h1] at e
    cases e
  · rw [mn_out h1] at e ⊢
    rw [upd_ne (ne_of_none e h)]
    exact e
theorem mn_but {H H' : Hp} {S : List Addr} {a : Addr} (h : a ∈ S) (s : SameBut a H H') : Same (mn H S) (mn H' S) := fun b u e => by
  by_cases h1 : b ∈ S
  · rw [mn_in h1] at e
    cases e
  · rw [mn_out h1] at e ⊢
    exact s b u (fun z => h1 (z ▸ h)) e
theorem mn_all {H H' : Hp} {S : List Addr} (s : Same H H') : Same (mn H S) (mn H' S) := fun b u e => by
  by_cases h1 : b ∈ S
  · rw [mn_in h1] at e
    cases e
  · rw [mn_out h1] at e ⊢
    exact s b u e
theorem mn_to {H H' : Hp} {S T : List Addr} (h : ∀ b, b ∈ S → b ∈ T) (s : Same (mn H S) (mn H' S)) : Same (mn H T) (mn H' T) := fun b u e => by
  by_cases h1 : b ∈ T
  · rw [mn_in h1] at e
    cases e
  · rw [mn_out h1] at e ⊢
    have z := s b u (by rw [mn_out fun z => h1 (h b z)]; exact e)
    rw [mn_out fun z => h1 (h b z)] at z
    exact z
/-- what is tracked beside S was there, or is new -/
theorem mn_at {H : Hp} {S : List Addr} {b : Addr} {o : HO} (h : b ∉ S) (e : H b = some o) : mn H S b = some o := by
  rw [mn_out h]
  exact e
theorem mn_keep {H H' : Hp} {S : List Addr} (s : Same (mn H S) (mn H' S)) {b : Addr} {o : HO} (h : b ∉ S) (e : H b = some o) : H' b = some o := mn_same _ _ (s _ _ (mn_at h e))
theorem mn_free {H H' : Hp} {S : List Addr} (s : Same (mn H S) (mn H' S)) {b : Addr} (h : b ∉ S) (e : H' b = none) : H b = none := by
  cases z : H b with
  | none => rfl
  | some o =>
    rw [mn_keep s h z] at e
    cases e

/-! ### data -/
section
variable {K : PySem.W.Frag} {H : Hp}
theorem dp_lst {v : V} {ds : List PyData} (h : Dp K H v (.list ds)) : ∃ a xs, v = .ref a ∧ SqL K H a xs ∧ DpAll K H xs ds := by
  cases h with
  | lst s a => exact ⟨_, _, rfl, s, a⟩
theorem dp_tup {v : V} {ds : List PyData} (h : Dp K H v (.tuple ds)) : ∃ a xs, v = .ref a ∧ SqT K H a xs ∧ DpAll K H xs ds := by
  cases h with
  | tup s a => exact ⟨_, _, rfl, s, a⟩
theorem dp_str {v : V} {s : Str} (h : Dp K H v (.str s)) : v = .str s := by cases h; rfl
theorem dp_int {v : V} {i : Int} (h : Dp K H v (.int i)) : v = .int i := by cases h; rfl
theorem da_len : ∀ {xs : List V} {ds : List PyData}, DpAll K H xs ds → xs.length = ds.length
  | _, _, .nil => rfl
  | _, _, .cons _ t => congrArg (· + 1) (da_len t)
theorem da_get : ∀ {xs : List V} {ds : List PyData}, DpAll K H xs ds → ∀ {i : Nat} {d : PyData}, ds[i]? = some d → ∃ v, xs[i]? = some v ∧ Dp K H v d
  | _, _, .nil, i, d, e => by cases e
  | _, _, .cons h t, 0, d, e => by
    cases e
    exact ⟨_, rfl, h⟩
  | _, _, .cons h t, i + 1, d, e => da_get t e
theorem da_at : ∀ {xs : List V} {ds : List PyData}, DpAll K H xs ds → ∀ {i : Nat} {v : V}, xs[i]? = some v → ∃ d, ds[i]? = some d ∧ Dp K H v d
  | _, _, .nil, i, d, e => by cases e
  | _, _, .cons h t, 0, d, e => by
    cases e
    exact ⟨_, rfl, h⟩
  | _, _, .cons h t, i + 1, d, e => da_at t e
theorem da_app : ∀ {xs ys : List V} {ds es : List PyData}, DpAll K H xs ds → DpAll K H ys es → DpAll K H (xs ++ ys) (ds ++ es)
  | _, _, _, _, .nil, h => h
  | _, _, _, _, .cons h t, k => .cons h (da_app t k)
theorem da_one {v : V} {d : PyData} (h : Dp K H v d) : DpAll K H [v] [d] := .cons h .nil
theorem da_strs : ∀ {xs : List V} {ns : List Str}, DpAll K H xs (ns.map PyData.str) → xs = ns.map V.str
  | [], [], _ => rfl
  | [], _ :: _, h => by cases h
  | _ :: _, [], h => by cases h
  | x :: xs, n :: ns, h => by
    cases h with
    | cons h t =>
      rw [dp_str h, da_strs t]
      rfl
theorem da_ints : ∀ {xs : List V} {ns : List Int}, DpAll K H xs (ns.map PyData.int) → xs = ns.map V.int
  | [], [], _ => rfl
  | [], _ :: _, h => by cases h
  | _ :: _, [], h => by cases h
  | x :: xs, n :: ns, h => by
    cases h with
    | cons h t =>
      rw [dp_int h, da_ints t]
      rfl
theorem da_take : ∀ {xs : List V} {ds : List PyData}, DpAll K H xs ds → ∀ n, DpAll K H (xs.take n) (ds.take n)
  | _, _, .nil, n => by
    rw [List.take_nil, List.take_nil]
    exact .nil
  | _, _, .cons h t, 0 => .nil
  | _, _, .cons h t, n + 1 => .cons h (da_take t n)
/-- the strs of a tuple of texts -/
theorem dp_names {v : V} {ns : List Str} (h : Dp K H v (.tuple (ns.map PyData.str))) : ∃ a, v = .ref a ∧ SqT K H a (ns.map V.str) := by
  obtain ⟨a, xs, rfl, s, t⟩ := dp_tup h
  rw [da_strs t] at s
  exact ⟨a, rfl, s⟩
theorem dp_namesL {v : V} {ns : List Str} (h : Dp K H v (.list (ns.map PyData.str))) : ∃ a, v = .ref a ∧ SqL K H a (ns.map V.str) := by
  obtain ⟨a, xs, rfl, s, t⟩ := dp_lst h
  rw [da_strs t] at s
  exact ⟨a, rfl, s⟩
theorem names_dp {a : Addr} {ns : List Str} (h : SqT K H a (ns.map V.str)) : Dp K H (.ref a) (.tuple (ns.map PyData.str)) := .tup h (dp_strs ns)
theorem namesL_dp {a : Addr} {ns : List Str} (h : SqL K H a (ns.map V.str)) : Dp K H (.ref a) (.list (ns.map PyData.str)) := .lst h (dp_strs ns)
end

/-! ### what may be compared: no dicts, not too deep -/
def Lay (n : Nat) (d : PyData) : Prop := d.canLay0 = true ∧ d.depth ≤ n
def Lays (n : Nat) (ds : List PyData) : Prop := PyData.canLayAll0 ds = true ∧ PyData.depthAll ds ≤ n
theorem lays_nil {n : Nat} : Lays n [] := ⟨rfl, Nat.zero_le _⟩
theorem lays_cons {n : Nat} {d : PyData} {ds : List PyData} (h : Lay n d) (t : Lays n ds) : Lays n (d :: ds) := by
  constructor
  · show (d.canLay0 && PyData.canLayAll0 ds) = true
    rw [h.1, t.1]
    rfl
  · show max d.depth (PyData.depthAll ds) ≤ n
    exact Nat.max_le.mpr ⟨h.2, t.2⟩
theorem lays_of {n : Nat} : ∀ {ds : List PyData}, (∀ d ∈ ds, Lay n d) → Lays n ds
  | [], _ => lays_nil
  | d :: ds, h => lays_cons (h d List.mem_cons_self) (lays_of fun x hx => h x (List.mem_cons_of_mem _ hx))
theorem lay_tuple {n : Nat} {ds : List PyData} (h : Lays n ds) : Lay (n + 1) (.tuple ds) := ⟨h.1, Nat.succ_le_succ h.2⟩
theorem lay_list {n : Nat} {ds : List PyData} (h : Lays n ds) : Lay (n + 1) (.list ds) := ⟨h.1, Nat.succ_le_succ h.2⟩
theorem lay_int {n : Nat} {i : Int} : Lay n (.int i) := ⟨rfl, Nat.zero_le _⟩
theorem lay_str {n : Nat} {s : Str} (h : PyData.strOk s = true) : Lay n (.str s) := ⟨h, Nat.zero_le _⟩
theorem lay_up {m n : Nat} {d : PyData} (h : Lay m d) (k : m ≤ n) : Lay n d := ⟨h.1, Nat.le_trans h.2 k⟩
theorem lays_up {m n : Nat} {ds : List PyData} (h : Lays m ds) (k : m ≤ n) : Lays n ds := ⟨h.1, Nat.le_trans h.2 k⟩
theorem lays_mem {n : Nat} : ∀ {ds : List PyData}, Lays n ds → ∀ d ∈ ds, Lay n d
  | d :: ds, h, x, hx => by
    have h1 : (d.canLay0 && PyData.canLayAll0 ds) = true := h.1
    have h2 : max d.depth (PyData.depthAll ds) ≤ n := h.2
    rw [Bool.and_eq_true] at h1
    rw [Nat.max_le] at h2
    rcases List.mem_cons.mp hx with e | e
    · rw [e]
      exact ⟨h1.1, h2.1⟩
    · exact lays_mem ⟨h1.2, h2.2⟩ x e
theorem lays_strs {n : Nat} {ns : List Str} (h : ∀ s ∈ ns, PyData.strOk s = true) : Lays n (ns.map PyData.str) := lays_of fun d hd => by
  obtain ⟨s, hs, rfl⟩ := List.mem_map.mp hd
  exact lay_str (h s hs)
theorem lays_ints {n : Nat} {ns : List Int} : Lays n (ns.map PyData.int) := lays_of fun d hd => by
  obtain ⟨s, _, rfl⟩ := List.mem_map.mp hd
  exact lay_int
theorem shape {n : Nat} {d : PyData} (h : Lay n d) (k : n ≤ 64) : SeqAt.shaped d = true := by
  unfold SeqAt.shaped
  rw [Bool.and_eq_true]
  exact ⟨h.1, decide_eq_true (Nat.le_trans h.2 k)⟩
theorem eq_refl {n : Nat} {d : PyData} (h : Lay n d) : PyData.eqv d d = true := SeqAt.eqv_refl d h.1

/-! ### strict order of lists of texts, and equal lists -/
def Asc (l : List Str) : Prop := l.Pairwise fun x y => x.cps.toList < y.cps.toList
theorem asc_of : ∀ {l : List Str}, sortedS l = true → l.Nodup → Asc l := by
  intro l h nd
  have key : ∀ (d i : Nat) (x y : Str), l[i]? = some x → l[i + (d + 1)]? = some y → x.cps.toList < y.cps.toList := by
    intro d
    induction d with
    | zero => exact fun i x y h1 h2 => sorted_at h nd h1 h2
    | succ d ih =>
      intro i x y h1 h2
      have hl : i + (d + 1) < l.length := by
        have := (List.getElem?_eq_some_iff.mp h2).1
        omega
      have h3 : l[i + (d + 1)]? = some l[i + (d + 1)] := List.getElem?_eq_getElem hl
      exact List.lt_trans (ih i x _ h1 h3) (sorted_at h nd h3 h2)
  refine List.pairwise_iff_getElem.mpr fun i j hi hj hij => ?_
  exact key (j - i - 1) i _ _ (List.getElem?_eq_getElem hi) (by rw [show i + (j - i - 1 + 1) = j by omega]; exact List.getElem?_eq_getElem hj)
theorem asc_nodup {l : List Str} (h : Asc l) : l.Nodup := List.Pairwise.imp (fun {x y} hxy e => by
  rw [e] at hxy
  exact List.lt_irrefl _ hxy) h
theorem asc_eq : ∀ {l m : List Str}, Asc l → Asc m → (∀ x, x ∈ l ↔ x ∈ m) → l = m
  | [], [], _, _, _ => rfl
  | [], y :: m, _, _, h => absurd ((h y).mpr List.mem_cons_self) (by simp)
  | x :: l, [], _, _, h => absurd ((h x).mp List.mem_cons_self) (by simp)
  | x :: l, y :: m, h1, h2, h => by
    obtain ⟨a1, a2⟩ := List.pairwise_cons.mp h1
    obtain ⟨b1, b2⟩ := List.pairwise_cons.mp h2
    have e : x = y := by
      rcases List.mem_cons.mp ((h x).mp List.mem_cons_self) with e | e
      · exact e
      · rcases List.mem_cons.mp ((h y).mpr List.mem_cons_self) with e' | e'
        · exact e'.symm
        · exact absurd (List.lt_trans (a1 y e') (b1 x e)) (List.lt_irrefl _)
    subst e
    have nl : x ∉ l := fun z => List.lt_irrefl _ (a1 x z)
    have nm : x ∉ m := fun z => List.lt_irrefl _ (b1 x z)
    rw [asc_eq a2 b2 fun z => ⟨fun hz => (List.mem_cons.mp ((h z).mp (List.mem_cons_of_mem _ hz))).resolve_left fun e => nl (e ▸ hz), fun hz => (List.mem_cons.mp ((h z).mpr (List.mem_cons_of_mem _ hz))).resolve_left fun e => nm (e ▸ hz)⟩]

/-! ### sorted(xs), xs tuples of ints of one length: some order -/
def rSortRows (K : PySem.W.Frag) : List V → Hp → VK → Prop := fun vs H Q => ∃ (a : Addr) (xs : List V) (d : Nat) (B : Int), vs = [V.ref a] ∧ SqL K H a xs ∧ xs.length < 64 ∧ (∀ x ∈ xs, ∃ ns, TupI K H x ns ∧ ns.length = d ∧ TS.Bd B ns) ∧ (d = 0 → xs.length ≤ 1) ∧
  ∀ (ys : List V) (p : Addr), ys.Perm xs → H p = none → Q (.ref p) (upd H p (.lst ys))
theorem cr_sortRows {X : Cx} : CallR X (.builtin "sorted") (rSortRows X.K) := by
  intro pins s σ H vs us Q I r h
  obtain ⟨a, xs, d, B, rfl, hs, h64, hx, h1, q⟩ := h
  by_cases hd : 1 ≤ d
  · exact cr_sortT hd pins s σ H _ us Q I r ⟨a, xs, rfl, hs, h64, hx, fun ys p pm _ n => q ys p pm n⟩
  · have hl1 : xs.length ≤ 1 := h1 (by omega)
    obtain ⟨its, rv, hl, hz⟩ := I.list hs
    have hlen := rv.length
    rw [Vals.ref1 r]
    refine Srt.sorted_any hl.isList (by rw [← hlen]; exact hz) (fun h2 => absurd h2 (by omega)) fun out hp => ?_
    have e : out = its := by
      match its, hlen, hp with
      | [], _, hp => exact hp.eq_nil
      | [v], _, hp => exact List.perm_singleton.mp hp
      | _ :: _ :: _, hlen, _ =>
        simp only [List.length_cons] at hlen
        omega
    subst e
    obtain ⟨ep, he'⟩ := PyProof.Rows.sortedAll_at s.heap out out.toArray
    exact ⟨.ref _, upd H (s.heap.objs.size + 1) (.lst xs), I.laid (t' := s.toks) (fun _ _ => PyProof.Rows.sortedAll_old) (Nat.le_succ _) ⟨hz, out, ep, rv, by simpa using he'⟩, rfl, q xs _ (List.Perm.refl _) (I.hok.fresh (Nat.le_succ _))⟩

/-! ### the room of a call for a comparison of data -/
theorem room {k : Nat} {A : Around} (r : Room k A) : A.units + 65 < cLine := by
  have := r.un
  omega

/-! ### a list or a tuple of data -/
theorem dp_seq {K : PySem.W.Frag} {H : Hp} {v : V} {ds : List PyData} (h : Dp K H v (.list ds) ∨ Dp K H v (.tuple ds)) : ∃ a xs, v = .ref a ∧ DpAll K H xs ds ∧ (SqL K H a xs ∨ SqT K H a xs) := by
  rcases h with h | h
  · obtain ⟨a, xs, rfl, s, t⟩ := dp_lst h
    exact ⟨a, xs, rfl, t, .inl s⟩
  · obtain ⟨a, xs, rfl, s, t⟩ := dp_tup h
    exact ⟨a, xs, rfl, t, .inr s⟩

/-! ### name = {k: v for ..} -/
section
variable {X : Cx}
theorem ps_setDc {i : Nat} {y : Str} {py : Pos} {kx vx tg iter : Expr} {ifs : List Expr} {scope : Scope} {own : List (Str × Nat)} {pos spos : Pos} {wi : TI} {g : TG} {tt : TT} {tk tv : TE} (hc : X.calm = true) (hN : X.N.Nodup) (hy : X.N[i]? = some y) (hyl : X.env.scope.names.lookup y = some .local)
    (hsw : swapsWith (.DictComp kx vx [⟨tg, iter, ifs, 0⟩] scope pos) (some (.Name y py)) spos.line X.env = pure true) (hi : PI X tg iter wi) (ok : BlkOk X.N X.env.scope scope own)
    (hg : ∀ (s : Shared) (H : Hp) (C : Addr) (cl : List (Str × Addr)) (fp : List Addr), PG (X.blk s H scope (compEnvC scope cl C X.env) fp) tg g) (ht : ∀ (s : Shared) (H : Hp) (C : Addr) (cl : List (Str × Addr)) (fp : List Addr), PTs (X.blk s H scope (compEnvC scope cl C X.env) fp) ifs tt)
    (hk : ∀ (s : Shared) (H : Hp) (C : Addr) (cl : List (Str × Addr)) (fp : List Addr), PE (X.blk s H scope (compEnvC scope cl C X.env) fp) kx tk)
    (he : ∀ (s : Shared) (H : Hp) (C : Addr) (cl : List (Str × Addr)) (fp : List Addr), PE (X.blk s H scope (compEnvC scope cl C X.env) fp) vx tv) (hs : ∀ x, foldedSetIterable iter X.env x = pure x := by intro _; rfl) :
    PS X (.Assign [.Name y py] (.DictComp kx vx [⟨tg, iter, ifs, 0⟩] scope pos) spos) (tAsg (tDc wi g tt tk tv (own.map (·.2))) (gName i)) := by
  refine ⟨fun pins s σ H D I h => ?_⟩
  rw [exec_Assign_Name_used _ _ _ _ hsw]
  refine wpAny_bind (wpAny_standAt (wpAny_bind ?_))
  show wpAny _ X.A (do let _ ← comprehension (.DictComp kx vx [⟨tg, iter, ifs, 0⟩] scope pos) scope X.env _ newDict false (eval iter X.env) (some (assign (.Name y py) X.env))) _ _ s
  have h : tDc wi g tt tk tv (own.map (·.2)) σ H (fun x H1 => gName i x σ H1 D.nx) := h
  refine wpAny_bind (thn (dc_core (Qf := fun _ s' => SP X pins D .next s') hc hN I hi ok hg ht hk he hs h fun L C s' m H' I' q hn f => ?_) fun _ s' hq => wpAny_pure (wpAny_pure hq))
  show wpAny _ _ (assign (.Name y py) X.env (.ref L)) _ _ _
  refine wpAny_assign_Name (store_ok2 (v := V.ref L) I' hN hy (.inl hyl) rfl (fun s2 I2 ⟨a, sb, ha⟩ => ?_) (.inr hyl))
  obtain ⟨f0, f1, f2, f3, f4, f5⟩ := f
  have haC : C ≠ a := by
    rcases ha with z | z
    · rw [z]; exact f1
    · exact fun e => f4 y a z e.symm
  refine ⟨m, hn.sameBut sb haC, fun h3 sb3 => ?_⟩
  exact ⟨_, H', I2.turned (t' := s2.toks) (fun b o hb e => (sb3.2 b hb).trans e) f0 f1 f3 f4 f5, q⟩
theorem sw_trueD {kx vx : Expr} {gs : List Comprehension} {scope : Scope} {pos py : Pos} {y : Str} {l : Nat} {env : Env} (hk : env.scope.kind = .function) (hy : env.scope.names.lookup y = some .local) (hl : (py.line == pos.line) = true)
    (ha : (scope.names.any fun (n, k) => n == y && (k == .local || k == .cell)) = false) : swapsWith (.DictComp kx vx gs scope pos) (some (.Name y py)) l env = pure true := by
  have ky : env.kindOf y = some .local := hy
  have hb : env.blockKind = .function := by unfold Env.blockKind; rw [hk]; rfl
  unfold swapsWith
  simp only [hb, ky, ha, Expr.pos, hl]
  rfl
end
end Dx
/-! Own errors with one field, whose __init__ says super().__init__(f'..'). -/
namespace Er
open PySem PySem.Spec PyProof.Rows L2 Bx TL Dx Sup NdefX
/-- __init__(self, y): the error at a gets a dict with f = y -/
def spErr (ok : V → Prop) (C : Addr) (f : Str) : Sp := fun vs H Q _ => ∃ (a : Addr) (v : V), vs = [.ref a, v] ∧ ok v ∧ H a = some (exo a C none) ∧
  ∀ (d : Addr) (H' : Hp), (∀ b o, b ≠ a → H b = some o → H' b = some o) → H d = none → d ≠ a → H' a = some (exo a C (some d)) → H' d = some (exd d [(f, v)]) → Q .non H'
/-- the class at C, named x: an own error over ValueError with one field -/
structure Err (P : Program) (w : World) (K : PySem.W.Frag) (mg : Str → Option Value) (base : Heap) (x : Str) (C : Addr) (f y : Str) (ok : V → Prop) (k : Nat) : Prop where
  init : ∃ (fI : Addr) (fd : FuncData), PySem.W.findIn K (.ref C) "__init__" = some (some (.ref fI)) ∧ PySem.W.typeIn K (.ref fI) = some (.type "function") ∧ FnOk P w K mg base CX0 k fI fd ["self", y] (spErr ok C f) ∧ Binds K fd ["self", y] []
  exc : OexC K C
  g : mg x = some (.ref C)
  te : PySem.W.exmOne K (.ref C) (.ref C) = some true
  xf : XfC K C
  no : PySem.W.findIn K (.ref C) f = some none
section
variable {X : Cx} {x : Str} {C : Addr} {f y : Str} {ok : V → Prop} {k : Nat} {e : Expr} {te : TE} {p pos pos' : Pos} {W : WX}
theorem ps_raiseE (c : Err X.prog X.w X.K X.mg X.base x C f y ok k) (hc : X.calm = true) (tk : Takes X W) (hr : Room (k + 1) X.A) (he : PE X e te) (hg : Gl X x := by rfl) (hdb : (x == ("__debug__" : Str)) = false := by decide)
    (hst : starEach [e] X.env = (false, eval e X.env) :: starEach [] X.env := by rfl) (hpl : (backTo pos (starEach [] X.env)).any (·.1) = false := by rfl) :
    PS X (.Raise (some (.Call (.Name x p) [e] [] pos)) none pos') (fun _ σ H => te σ H fun v H1 => ok v ∧ ∀ d H3, Same H1 H3 → H1 d = none → H3 d = some (.xd [(f, v)]) → W (.ref C) (some d) σ H3) := by
  obtain ⟨fI, fd, iC, tI, F1, hb⟩ := c.init
  have he2 : PE X e (fun σ H Q => ∃ R : VK, te σ H R ∧ ∀ v H1, R v H1 → Q v H1) := ⟨fun pins s σ H Q I ⟨R, h, hR⟩ => thn (he.run pins s σ H R I h) fun v s1 ⟨x, H1, I1, r, q⟩ => ⟨x, H1, I1, r, hR _ _ q⟩⟩
  have z := ps_raise (pos := pos') hc tk (pmk_oex (pos := pos) (p := p) (dvs := []) c.exc iC tI F1 hr hb .nil (pass0) hg c.g (pa_cons he2 pa_nil hst) hdb hst hpl)
  refine ⟨fun pins s σ H D I h => z.run pins s σ H D I ?_⟩
  refine ⟨_, h, fun v H1 hq => ?_⟩
  obtain ⟨hok, hw⟩ := hq
  refine ⟨by show 1 ≤ 1000; decide, fun a na => ⟨a, v, rfl, hok, upd_same, fun d H' keep nd da ea ed => ?_⟩⟩
  have nd1 : H1 d = none := by
    rw [upd_ne da] at nd
    exact nd
  refine ⟨rfl, d, _, ea, ed, nd1, hw d _ (fun b o e => ?_) nd1 upd_same⟩
  have ba : b ≠ a := ne_of_none e na
  rw [upd_ne (ne_of_none e nd1), del_ne ba]
  exact keep b o ba (by rw [upd_ne ba]; exact e)
end
/-! ### isinstance of an error with a dict -/
def rIsD (K : PySem.W.Frag) (a : Addr) (cls : Value) (d : Option Addr) : List V → Hp → VK → Prop := fun xs H Q => ∃ (D dd : Addr) (c : V) (cv : Value) (b : Bool) (fs : List (Str × V)), xs = [.ref a, c] ∧ cls = .ref D ∧ d = some dd ∧ (PySem.W.clsIn K D).isSome = true ∧ ExcC K D ∧
  H dd = some (.xd fs) ∧ (∀ u, RelV c u → u = cv) ∧ PySem.W.kitOne K (.ref D) cv = some b ∧ Q (.bl b) H
theorem call_isD {X : Cx} {a : Addr} {cls : Value} {d : Option Addr} {oe : Obj} {pn : List (Addr × Obj)} (hz : Zc cls d oe) (hf : ∃ vs, oe.data = .fields vs) : CallR (X.suite a ((a, oe) :: pn)) (.builtin "isinstance") (rIsD X.K a cls d) := by
  intro pins s σ H xs us Q I r h
  obtain ⟨D, dd, c, cv, b, fs, rfl, rfl, rfl, hcl, C, hdd, hcv, e, q⟩ := h
  cases r with
  | cons rx rr =>
    cases rr with
    | cons rt rr =>
      cases rr
      cases rx
      have ec := hcv _ rt
      subst ec
      obtain ⟨hget, _⟩ := I.pin (a, oe) (List.mem_append.mpr (.inl List.mem_cons_self))
      obtain ⟨vs, hv⟩ := hf
      obtain ⟨oD, hD⟩ : ∃ o, s.heap.get? dd = some o := by
        obtain ⟨mA, hn, _⟩ := I.hok dd _ hdd
        obtain ⟨o, _, _, e, _⟩ := hn
        exact ⟨o, e⟩
      have J : PySem.W.InstAt s.heap a oe D (some oD) := by
        obtain ⟨oc, od, oda, osl⟩ := oe
        obtain ⟨h1, h2⟩ := hz
        dsimp only at h1 h2 hv
        subst h1 h2 hv
        exact ⟨hget, rfl, rfl, hD⟩
      exact PySem.W.kia_one (PySem.W.kitx_exc hcl C.hg C.hk C.hs C.ha C.hn C.ht C.hm) I.kIn J e (fun z => nomatch z) fun tk => ⟨.bl b, H, I.kept (t' := tk) fun _ _ z => z, rfl, q⟩
/-! ### calls of defs that may raise -/
section
variable {X : Cx} {CX : CXT} {k n : Nat} {f : Addr} {fd : FuncData} {ps ks : List Str} {sp : Sp} {E : L2.St → XK} {x : Str} {p pos : Pos} {e : Expr} {es : List Expr} {kws : List Keyword} {t tk : TA} {g : List Value → List Value → List Value} {gV : List V → List V → List V}
theorem run_fnNS {pins : List (Addr × Obj)} {σ : L2.St} {H : Hp} {s : Shared} {Q : VK} {us ws : List Value} {vs zs : List V} (F : FnOk X.prog X.w X.K X.mg X.base CX k f fd ps sp) (hr : Room k X.A) (hb : KBn X.K fd ps n ks g gV) (hx : PassesAt CX X σ (E σ))
    (I : Inv X pins σ H s) (r : Vals vs us) (rz : Vals zs ws) (l1 : vs.length = n) (l2 : zs.length = ks.length) (h : sp (gV vs zs) H Q (E σ)) : wpAny (model X.prog X.w) X.A (call (.ref f) us (ks.zip ws)) (EP X pins σ Q) X.xe s := by
  refine wpAny_call (codeAny_mono (F.run X.A X.stack s H ⟨us, ks.zip ws⟩ (g us ws) (gV vs zs) Q (E σ) hr I.env0 (hb.to s us ws I.kIn (by rw [← r.length]; exact l1) (by rw [← rz.length]; exact l2)) (hb.rel r rz) h) fun r s' hq => ?_)
  cases r with
  | error e => exact hx pins H s e s' I hq
  | ok fl =>
    cases fl with
    | ret u => exact I.after hq
    | next => exact False.elim hq
    | brk => exact False.elim hq
    | cont => exact False.elim hq
def tCallNS (n m : Nat) (sp : Sp) (gV : List V → List V → List V) (E : L2.St → XK) (t tk : TA) : TE := fun σ H Q => t σ H fun vs H1 => tk σ H1 fun zs H2 => vs.length = n ∧ zs.length = m ∧ sp (gV vs zs) H2 Q (E σ)
theorem pe_callNS (F : FnOk X.prog X.w X.K X.mg X.base CX k f fd ps sp) (hr : Room k X.A) (hg : Gl X x) (hm : X.mg x = some (.ref f)) (hk : PySem.W.keepIn X.K (.ref f) = true) (hb : KBn X.K fd ps n ks g gV) (hx : ∀ σ, PassesAt CX X σ (E σ))
    (ha : PA X (e :: es) t) (hkw : PK X kws tk) (hall : (backToKw pos (keywordEach kws X.env)).all (·.1.isSome) = true := by rfl) (hks : (backToKw pos (keywordEach kws X.env)).filterMap (·.1) = ks := by rfl)
    (hdb : (x == ("__debug__" : Str)) = false := by decide) (he : starEach (e :: es) X.env = (false, eval e X.env) :: starEach es X.env := by rfl)
    (hpl : ((backTo pos (starEach (e :: es) X.env)).any (·.1) || (backToKw pos (keywordEach kws X.env)).any (·.1.isNone)) = false := by rfl) :
    PE X (.Call (.Name x p) (e :: es) kws pos) (tCallNS n ks.length sp gV E t tk) := by
  refine ⟨fun pins s σ H Q I h => ?_⟩
  refine wpAny_Call_Name_kw (ld_glob I hg hm ?_ hdb)
  refine PySem.W.callWith_KW (h₀ := X.base) I.ok.mod.kin hk hall (thn (ha.run pos pins s σ H _ I h) fun us s1 ⟨vs, H1, I1, r, q⟩ => ?_) hpl he
  refine thn (hkw.run pos pins s1 σ H1 _ I1 q) fun ws s2 ⟨zs, H2, I2, rz, l1, l2, q2⟩ => ⟨I2.kIn, ?_⟩
  rw [hks]
  exact run_fnNS F hr hb (hx σ) I2 r rz l1 l2 q2
/-- the module's name x holds a def of one parameter and a keyword-only one with a default; it may raise -/
structure CalX (P : Program) (w : World) (K : PySem.W.Frag) (mg : Str → Option Value) (base : Heap) (x y : Str) (k : Nat) (ps : List Str) (dv : V) (sp : Sp) : Prop where
  ex : ∃ (f : Addr) (fd : FuncData), FnOk P w K mg base (L2.CX P w) k f fd ps sp ∧ mg x = some (.ref f) ∧ PySem.W.keepIn K (.ref f) = true ∧ (∃ ds, Vals [dv] ds ∧ Binds K fd ps ds) ∧ KBn K fd ps 1 [y] (fun us ws => us ++ ws) (fun vs zs => vs ++ zs)
variable {y : Str} {dv : V} {W : WX} {tk1 : TA}
def tCalX (sp : Sp) (dv : V) (W : WX) (t : TA) : TE := fun σ H Q => t σ H fun vs H1 => sp (vs ++ [dv]) H1 Q (fun cls d H' => W cls d σ H')
def tCalXK (sp : Sp) (W : WX) (t tk : TA) : TE := fun σ H Q => t σ H fun vs H1 => tk σ H1 fun zs H2 => vs.length = 1 ∧ zs.length = 1 ∧ sp (vs ++ zs) H2 Q (fun cls d H' => W cls d σ H')
theorem pe_calX (c : CalX X.prog X.w X.K X.mg X.base x y k ps dv sp) (tkW : Takes X W) (hr : Room k X.A) (ha : PA X (e :: es) t) (hg : Gl X x := by rfl) (hdb : (x == ("__debug__" : Str)) = false := by decide)
    (he : starEach (e :: es) X.env = (false, eval e X.env) :: starEach es X.env := by rfl) (hpl : (backTo pos (starEach es X.env)).any (·.1) = false := by rfl) : PE X (.Call (.Name x p) (e :: es) [] pos) (tCalX sp dv W t) := by
  obtain ⟨f, fd, ok, hm, kp, ⟨ds, hv, hb⟩, _⟩ := c.ex
  have z := pe_callSD (E := fun σ cls d H' => W cls d σ H') ok hr hg hm kp hb hv (fun σ => passAt tkW σ) ha hdb he hpl (p := p)
  exact ⟨fun pins s σ H Q I h => z.run pins s σ H Q I h⟩
theorem pe_calXK (c : CalX X.prog X.w X.K X.mg X.base x y k ps dv sp) (tkW : Takes X W) (hr : Room k X.A) (ha : PA X (e :: es) t) (hkw : PK X kws tk1) (hg : Gl X x := by rfl) (hall : (backToKw pos (keywordEach kws X.env)).all (·.1.isSome) = true := by rfl) (hks : (backToKw pos (keywordEach kws X.env)).filterMap (·.1) = [y] := by rfl)
    (hdb : (x == ("__debug__" : Str)) = false := by decide) (he : starEach (e :: es) X.env = (false, eval e X.env) :: starEach es X.env := by rfl)
    (hpl : ((backTo pos (starEach (e :: es) X.env)).any (·.1) || (backToKw pos (keywordEach kws X.env)).any (·.1.isNone)) = false := by rfl) : PE X (.Call (.Name x p) (e :: es) kws pos) (tCalXK sp W t tk1) := by
  obtain ⟨f, fd, ok, hm, kp, _, hb⟩ := c.ex
  have z := pe_callNS (E := fun σ cls d H' => W cls d σ H') ok hr hg hm kp hb (fun σ => passAt tkW σ) ha hkw hall hks hdb he hpl (p := p)
  exact ⟨fun pins s σ H Q I h => z.run pins s σ H Q I h⟩
end
end Er
/-! zip of two tuples, walked; great products and quotients; xs[::-1]. -/
namespace Zx
open PySem PySem.Spec PyProof.Rows L2 Bx TL Dx
theorem walk_zipT {K : PySem.W.Frag} {a b : Addr} {xs ys : List V} {n : Nat} (hn : n = min xs.length ys.length) : Walk (RZ.ItzT K a b) n (fun H => SqT K H a xs ∧ SqT K H b ys) (YPair (fun i => xs[i]?) (fun i => ys[i]?)) := by
  subst hn
  refine ⟨fun i _ hi q => ?_, fun _ q => ⟨xs, ys, q.1, q.2, by omega⟩, fun i H v H' _ q y => ?_⟩
  · have h1 : i < xs.length := by omega
    have h2 : i < ys.length := by omega
    exact ⟨xs, ys, xs[i], ys[i], q.1, q.2, by simp [h1], by simp [h2]⟩
  · obtain ⟨T, x, z, h1, h2, h3, h4, h5⟩ := y
    exact ⟨T, x, z, h1, h2, h3, h4 xs q.1, h5 ys q.2⟩
end Zx
namespace Zx
open PySem PySem.Spec PyProof.Rows L2
theorem ne_t {p : Prop} [Decidable p] (h : (!decide p) = true) : ¬ p := by simpa using h
theorem ne_f {p : Prop} [Decidable p] (h : ¬ (!decide p) = true) : p := by simpa using h
theorem int_t {x y : Int} (h : decide (V.int x = V.int y) = true) : x = y := V.int.inj (of_decide_eq_true h)
theorem int_f {x y : Int} (h : ¬ decide (V.int x = V.int y) = true) : x ≠ y := fun e => h (decide_eq_true (congrArg V.int e))
theorem int_nt {x y : Int} (h : (!decide (V.int x = V.int y)) = true) : x ≠ y := fun e => ne_t h (congrArg V.int e)
theorem int_nf {x y : Int} (h : ¬ (!decide (V.int x = V.int y)) = true) : x = y := V.int.inj (ne_f h)
end Zx
namespace Zx
open PySem PySem.Spec PyProof.Rows L2 Bx
section
variable {K : PySem.W.Frag}
theorem ty_tup {H : Hp} {a : Addr} {xs : List V} (h : SqT K H a xs) : TyX K H (.ref a) (.type "tuple") := by
  rcases h with (h | ⟨o, h⟩) | h
  · exact .base (.tup h)
  · exact .fTuple h
  · obtain ⟨o, its, n, h1, h2, _⟩ := h
    exact .kTuple h1 h2
def spRight : Sp := fun vs H Q _ => ∃ a : Addr, vs = [.ref a] ∧ Src H a ∧ ∀ H', SameBut a H H' → Q (.bl true) H'
end
end Zx
namespace Zx
open PySem PySem.Spec PyProof.Rows L2 Bx
theorem cont_of {α : Type} {R X : α → Prop} {G : Prop} (first : (∀ a, R a → X a) → G) (rest : ∀ a, R a → X a) : G := first rest
theorem cont_of2 {α β : Type} {R X : α → β → Prop} {G : Prop} (first : (∀ a b, R a b → X a b) → G) (rest : ∀ a b, R a b → X a b) : G := first rest
theorem but_new {a : Addr} {H H3 : Hp} {p : Addr} {o : HO} (h : H p = none) (s : SameBut a (upd H p o) H3) : SameBut a H H3 := fun b x n e => s b x n (by rw [upd_ne (ne_of_none e h)]; exact e)
theorem but_at {a : Addr} {H H2 : Hp} {p : Addr} {o : HO} (h : H p = none) (s : SameBut a H H2) : SameBut a H (upd H2 p o) := fun b x n e => by
  rw [upd_ne (ne_of_none e h)]
  exact s b x n e
theorem src_same {a : Addr} {H1 H2 : Hp} (s : Src H1 a) (t : Same H1 H2) : Src H2 a := by
  obtain ⟨n, c, h⟩ := s
  exact ⟨n, c, t _ _ h⟩
theorem src_ne {a o : Addr} {H : Hp} (s : Src H a) (h : H o = none) : a ≠ o := by
  obtain ⟨n, c, z⟩ := s
  exact ne_of_none z h
theorem but_free {a o : Addr} {H H1 : Hp} (s : SameBut a H H1) (n : o ≠ a) (h : H1 o = none) : H o = none := by
  cases e : H o with
  | none => rfl
  | some x =>
    rw [s o x n e] at h
    cases h
theorem src_upd {a o : Addr} {H : Hp} {u : HO} (s : Src H a) (n : a ≠ o) : Src (upd H o u) a := by
  obtain ⟨x, c, h⟩ := s
  exact ⟨x, c, by rw [upd_ne n]; exact h⟩

end Zx
namespace Zx
open PySem PySem.Spec PyProof.Rows L2 Bx
theorem set_same {σ : L2.St} {i : Nat} {v : V} (h : σ[i]? = some (some v)) : σ.set i (some v) = σ := by
  obtain ⟨hi, e⟩ := List.getElem?_eq_some_iff.mp h
  rw [← e]
  exact List.set_getElem_self hi
/-- if c: name = e -/
theorem if_asg {c : Prop} [Decidable c] {te : TE} {i : Nat} {D : Ends} {σ : L2.St} {H : Hp} {old : V} (R : V → Hp → Prop) (hi : σ[i]? = some (some old))
    (h1 : c → ∀ Z : V → Hp → Prop, (∀ v H', R v H' → Z v H') → te σ H Z) (h2 : ¬ c → R old H) (rest : ∀ v H', R v H' → D.nx (σ.set i (some v)) H') : if c then tAsg te (gName i) D σ H else tNext D σ H := by
  split
  · rename_i h
    exact h1 h (fun v H' => D.nx (σ.set i (some v)) H') rest
  · rename_i h
    have := rest old H (h2 h)
    rw [set_same hi] at this
    exact this
/-- if c: name = e else: name = f -/
theorem if_asg2 {c : Prop} [Decidable c] {te tf : TE} {i : Nat} {D : Ends} {σ : L2.St} {H : Hp} (R : V → Hp → Prop)
    (h1 : c → ∀ Z : V → Hp → Prop, (∀ v H', R v H' → Z v H') → te σ H Z) (h2 : ¬ c → ∀ Z : V → Hp → Prop, (∀ v H', R v H' → Z v H') → tf σ H Z) (rest : ∀ v H', R v H' → D.nx (σ.set i (some v)) H') : if c then tAsg te (gName i) D σ H else tAsg tf (gName i) D σ H := by
  split
  · rename_i h
    exact h1 h (fun v H' => D.nx (σ.set i (some v)) H') rest
  · rename_i h
    exact h2 h (fun v H' => D.nx (σ.set i (some v)) H') rest
end Zx
/-! Own classes: methods that operators and built-ins call. -/
namespace Ow
open PySem PySem.Spec PyProof.Rows L2 Bx TL Dx Zx
/-- the class at C (or one above it) has the method m, a def that keeps sp -/
structure OwM (P : Program) (w : World) (K : PySem.W.Frag) (mg : Str → Option Value) (base : Heap) (CX : CXT) (C : Addr) (m : Str) (k : Nat) (ps : List Str) (sp : Sp) : Prop where
  ex : ∃ (f : Addr) (fd : FuncData), FnOk P w K mg base CX k f fd ps sp ∧ PySem.W.findIn K (.ref C) m = some (some (.ref f)) ∧ PySem.W.isFn K (.ref f) = true ∧ PySem.W.keepIn K (.ref f) = true ∧ Binds K fd ps []
section
variable {X : Cx} {pins : List (Addr × Obj)} {σ : L2.St} {H : Hp} {s : Shared} {C a dx : Addr} {fs : List (Str × V)}
/-- an instance as the library's operators see it -/
theorem inst_of (I : Inv X pins σ H s) (e : H a = some (.ins C dx fs)) : ∃ od, PySem.W.InstAt s.heap a (PySem.W.instObj C dx) C (some od) := by
  obtain ⟨mA, J, _⟩ := ins_get I.hok e
  obtain ⟨od, J2, _⟩ := J.look
  exact ⟨od, J2⟩
/-- a def is called, somewhere within -/
theorem call_at {CX : CXT} {k : Nat} {f : Addr} {fd : FuncData} {ps : List Str} {sp : Sp} {A1 : Around} {us : List Value} {vs : List V} {Q : VK} {E : XK} {E1 : Value → Shared → Prop} (sb : Sub X k A1) (ok : FnOk X.prog X.w X.K X.mg X.base CX k f fd ps sp) (b : Binds X.K fd ps [])
    (I : Inv X pins σ H s) (r : Vals vs us) (hsp : sp vs H Q E) (hx : ∀ e s', CX X.stack H s E e s' → E1 e s') : wpAny (model X.prog X.w) A1 (call (.ref f) us) (EP X pins σ Q) E1 s := by
  have z0 := I.env0
  have e0 : Env0 X.prog X.w X.K X.mg X.base A1 X.stack s H := ⟨by rw [sb.fr]; exact z0.frames, z0.mod, z0.bs, z0.bsz, z0.funs, z0.frf, z0.hok, z0.bare⟩
  have n1 := ok.len _ _ _ _ hsp
  have n2 : us.length = ps.length := by rw [← r.length]; exact n1
  have bb := b s us I.kIn (by rw [List.append_nil]; exact n2)
  rw [List.append_nil] at bb
  refine wpAny_call (codeAny_mono (ok.run A1 X.stack s H ⟨us, []⟩ us vs Q E sb.room e0 bb r hsp) fun res s' back => ?_)
  match res, back with
  | .error e, back => exact hx e s' back
  | .ok (.ret u), back => exact I.after back
  | .ok .next, back => exact back.elim
  | .ok .brk, back => exact back.elim
  | .ok .cont, back => exact back.elim
theorem sub_self {n : Nat} (hr : Room n X.A) : Sub X n X.A := ⟨hr, rfl⟩
/-- len(o) -/
def rLenO (C : Addr) (sp : Sp) : List V → Hp → VK → Prop := fun xs H Q => ∃ a dx fs, xs = [.ref a] ∧ H a = some (.ins C dx fs) ∧ sp [.ref a] H (fun v H' => ∃ n : Nat, v = .int (n : Int) ∧ n < 2 ^ 62 ∧ Q (.int (n : Int)) H') E0
theorem call_lenO {k : Nat} {ps : List Str} {sp : Sp} (c : OwM X.prog X.w X.K X.mg X.base CX0 C "__len__" k ps sp) (hr : Room (k + 1) X.A) : CallR X (.builtin "len") (rLenO C sp) := by
  intro pins s σ H xs us Q I r h
  obtain ⟨a, dx, fs, rfl, ha, hsp⟩ := h
  obtain ⟨f, fd, ok, hs, hf, _, hb⟩ := c.ex
  obtain ⟨od, J⟩ := inst_of I ha
  obtain ⟨m, hF⟩ := I.fr
  have r0 := r
  cases r with
  | cons r1 r2 =>
    cases r2
    cases r1
    refine PySem.W.len_K hF I.ok.mod.kin J hs hf ?_
    refine wpAny_mono (call_at ((sub_self hr).in1) ok hb I r0 hsp (fun e s' z => z.elim)) (fun u s' hu => ?_) (fun _ _ z => z)
    obtain ⟨v, H', I', rv, n, rfl, hn, hq⟩ := hu
    obtain ⟨t, rfl⟩ := rv
    exact ⟨⟨by omega, by omega⟩, .int n, H', I'.tok _, ⟨_, rfl⟩, hq⟩
/-- x in o, x not in o -/
def rInO (C : Addr) (sp : Sp) (neg : Bool) : V → V → Hp → VK → Prop := fun x y H Q => ∃ a dx fs, y = .ref a ∧ H a = some (.ins C dx fs) ∧ sp [.ref a, x] H (fun v H' => ∃ b : Bool, v = .bl b ∧ Q (.bl (b != neg)) H') E0
theorem truth_bl {M : Model} {A : Around} {E : Value → Shared → Prop} {s : Shared} {b : Bool} {Q : Bool → Shared → Prop} (h : Q b s) : wpAny M A (truthy (.bool b)) Q E s := by
  unfold truthy
  exact wpAny_pure h
theorem op_inO {k : Nat} {ps : List Str} {sp : Sp} (c : OwM X.prog X.w X.K X.mg X.base CX0 C "__contains__" k ps sp) (hr : Room k X.A) : OpR X (compareOp .In) (rInO C sp false) := by
  intro pins s σ H x y u v Q I rx ry h
  obtain ⟨a, dx, fs, rfl, ha, hsp⟩ := h
  obtain ⟨f, fd, ok, hs, hf, _, hb⟩ := c.ex
  obtain ⟨od, J⟩ := inst_of I ha
  obtain ⟨m, hF⟩ := I.fr
  cases ry
  refine PySem.W.in_K hF I.ok.mod.kin J hs hf ?_
  refine wpAny_mono (call_at (sub_self hr) ok hb I (vs := [.ref a, x]) (.cons rfl (.cons rx .nil)) hsp (fun e s' z => z.elim)) (fun u s' hu => ?_) (fun _ _ z => z)
  obtain ⟨v, H', I', rv, b, rfl, hq⟩ := hu
  cases rv
  refine truth_bl ⟨.bl b, H', I', rfl, ?_⟩
  rw [show (b != false) = b by cases b <;> rfl] at hq
  exact hq
theorem op_notInO {k : Nat} {ps : List Str} {sp : Sp} (c : OwM X.prog X.w X.K X.mg X.base CX0 C "__contains__" k ps sp) (hr : Room k X.A) : OpR X (compareOp .NotIn) (rInO C sp true) := by
  intro pins s σ H x y u v Q I rx ry h
  obtain ⟨a, dx, fs, rfl, ha, hsp⟩ := h
  obtain ⟨f, fd, ok, hs, hf, _, hb⟩ := c.ex
  obtain ⟨od, J⟩ := inst_of I ha
  obtain ⟨m, hF⟩ := I.fr
  cases ry
  refine PySem.W.notIn_K hF I.ok.mod.kin J hs hf ?_
  refine wpAny_mono (call_at (sub_self hr) ok hb I (vs := [.ref a, x]) (.cons rfl (.cons rx .nil)) hsp (fun e s' z => z.elim)) (fun u s' hu => ?_) (fun _ _ z => z)
  obtain ⟨v, H', I', rv, b, rfl, hq⟩ := hu
  cases rv
  refine truth_bl ⟨.bl (!b), H', I', rfl, ?_⟩
  rw [show (b != true) = !b by cases b <;> rfl] at hq
  exact hq
end
end Ow
/-! Own classes: o[i], o op x, loops over o. -/
namespace Ow
open PySem PySem.Spec PyProof.Rows L2 Bx TL Dx Zx ItX
/-! ### o[i] -/
section
variable {X : Cx} {C : Addr} {CXc : CXT} {k : Nat} {ps : List Str} {sp : Sp} {W : WX} {a b : Expr} {ta tb : TE} {pos : Pos}
def tSubO (C : Addr) (sp : Sp) (W : WX) (ta tb : TE) : TE := fun σ H Q => ta σ H fun x H1 => tb σ H1 fun y H2 => ∃ p dx fs, x = .ref p ∧ H2 p = some (.ins C dx fs) ∧ sp [.ref p, y] H2 Q (fun cls d H' => W cls d σ H')
theorem pe_subO (c : OwM X.prog X.w X.K X.mg X.base CXc C "__getitem__" k ps sp) (fi : ∀ f, PySem.W.findIn X.K (.ref C) "__getitem__" = some (some (.ref f)) → PySem.W.fnIn X.K f = true) (hr : Room (k + 1) X.A) (hx : ∀ σ, PassesAt CXc X σ (fun cls d H' => W cls d σ H')) (ha : PE X a ta) (hb : PE X b tb)
    (hs : ∀ v u, subscripted b true v u = runValue (.builtin "lifetime.subscript" ⟨[v, u], []⟩) := by intro _ _; rfl) : PE X (.Subscript a b pos) (tSubO C sp W ta tb) := by
  refine ⟨fun pins s σ H Q I h => ?_⟩
  refine Subscript_ (binT ha hb I (R := fun x y H2 => ∃ p dx fs, x = .ref p ∧ H2 p = some (.ins C dx fs) ∧ sp [.ref p, y] H2 Q (fun cls d H' => W cls d σ H')) h fun v u s2 x y H2 I2 rx ry q => ?_)
  obtain ⟨p, dx, fs, rfl, hp, hsp⟩ := q
  obtain ⟨f, fd, ok, hfi, hf, _, hbd⟩ := c.ex
  obtain ⟨od, J⟩ := inst_of I2 hp
  obtain ⟨m, hF⟩ := I2.fr
  cases rx
  refine PySem.W.sub_K hF I2.ok.mod.kin J hfi (fi f hfi) hf ?_ (hs _ _)
  exact call_at ((sub_self hr).in1) ok hbd I2 (vs := [.ref p, y]) (.cons rfl (.cons ry .nil)) hsp (fun e s' z => hx σ pins H2 s2 e s' I2 z)
end
/-! ### o op x, x of a built-in type -/
/-- what the written part says of an operator of C with a second operand of the built-in type T -/
structure BinF (K : PySem.W.Frag) (C : Addr) (op : Operator) (T : String) : Prop where
  first : PySem.W.selfFirst K C = true
  refl : ∃ rc, PySem.W.findIn K (.ref C) (dunderR op.info.2) = some rc ∧ (rc = none ∨ ∃ g : Addr, rc = some (.ref g))
  t1 : ∃ fo, PySem.W.findIn K (.type T) (PySem.dunder op.info.2) = some fo
  t2 : ∃ ro, PySem.W.findIn K (.type T) (dunderR op.info.2) = some ro
  sub : PySem.W.subIn K (.type T) (.ref C) = some false
/-- the type of a value, looked at -/
def LkT (M : Model) (h : Heap) (v : Value) (T : String) : Prop := PySem.W.Looks M h (typeOf v) (.type T)
theorem bin_looks {prog : Program} {w : World} {A : Around} {E : Value → Shared → Prop} {s : Shared} {K : PySem.W.Frag} {x C f : Addr} {ox : Obj} {od : Option Obj} {T : String} {op : Operator} {b : Value} {Q : Value → Shared → Prop}
    (X : K.In s.heap) (I : PySem.W.InstAt s.heap x ox C od) (B : BinF K C op T) (hb : LkT (model prog w) s.heap b T) (hs : PySem.W.findIn K (.ref C) (PySem.dunder op.info.2) = some (some (.ref f))) (hf : PySem.W.isFn K (.ref f) = true)
    (h : wpAny (model prog w) A (call (.ref f) [.ref x, b]) (PySem.W.CmpBack Q) E s) : wpAny (model prog w) A (binaryOp op (.ref x) b) Q E s := by
  obtain ⟨hc, ⟨rc, hrc, hrp⟩, ⟨fo, h1⟩, ⟨ro, h2⟩, hsub⟩ := B
  obtain ⟨cd, rest, hcd, hm⟩ := PySem.W.ksp_first hc
  cases hi : op.info with
  | mk sym nm =>
    rw [hi] at hs hrc h1 h2
    dsimp only at hs hrc h1 h2
    have called := PySem.W.ksp_try X I hs hf h
    have d1 : PySem.W.Looks (model prog w) s.heap (typeOf (.ref x)) (.ref C) := I.type
    have d3 : PySem.W.Looks (model prog w) s.heap (fillsNumberSlot (.ref C) nm) true := PySem.W.fills_K X hcd hm hs
    have d4 := PySem.W.ksp_fillsT (M := model prog w) X h1 h2
    have d5 : PySem.W.Looks (model prog w) s.heap (isSubtype (.type T) (.ref C)) false := PySem.W.looks_subIn X hsub
    have d6 : PySem.W.Looks (model prog w) s.heap (numberSlotInPython (.ref C) nm) true := PySem.W.ksp_inPy X hs hrc hrp
    have d7 : PySem.W.Looks (model prog w) s.heap (numberSlotInPython (.type T) nm) false := PySem.W.Looks.of_pure rfl
    have d8 : PySem.W.Looks (model prog w) s.heap (typeLookup (.type T) (dunderR nm)) ro := PySem.W.looks_findIn X h2
    unfold LkT at hb
    clear X I hs hf h
    obtain ⟨hp, g, dd, tt, os⟩ := s
    generalize ((fo.isSome && !isSeqSlot fo) || (ro.isSome && !isSeqSlot ro)) = right at d4
    have other : (Value.ref C == Value.type T) = false := by
      cases z : (Value.ref C == Value.type T) with
      | false => rfl
      | true => cases beq_iff_eq.mp z
    simp only [binaryOp, hi]
    refine wpAny_holding (wpAny_bind ?_)
    unfold binaryOp1
    refine wpAny_bind (d1.at (wpAny_bind ?_))
    refine hb.at (wpAny_bind (d3.at ?_))
    simp only [other, Bool.false_eq_true, if_false]
    cases right
    · ksp_lk
      refine wpAny_mono called (fun r s' z => ?_) fun _ _ e => e
      obtain ⟨v, rfl, z⟩ := z
      ksp_lk
      exact z
    · ksp_lk
      refine wpAny_mono called (fun r s' z => ?_) fun _ _ e => e
      obtain ⟨v, rfl, z⟩ := z
      ksp_lk
      exact z
end Ow
namespace Ow
open PySem PySem.Spec PyProof.Rows L2 Bx TL Dx Zx ItX
section
variable {X : Cx} {pins : List (Addr × Obj)} {σ : L2.St} {H : Hp} {s : Shared}
/-- the built-in types of second operands -/
inductive TyO (K : PySem.W.Frag) (H : Hp) : V → String → Prop
  | int (i : Int) : TyO K H (.int i) "int"
  | str (z : Str) : TyO K H (.str z) "str"
  | tup {p : Addr} {xs : List V} (h : SqT K H p xs) : TyO K H (.ref p) "tuple"
theorem lk_of {y : V} {v : Value} {T : String} (I : Inv X pins σ H s) (r : RelV y v) (t : TyO X.K H y T) : LkT (model X.prog X.w) s.heap v T := by
  cases t with
  | int i =>
    obtain ⟨u, rfl⟩ := r
    exact PySem.W.Looks.of_pure rfl
  | str z =>
    obtain ⟨u, rfl⟩ := r
    exact PySem.W.Looks.of_pure rfl
  | tup h =>
    cases r
    obtain ⟨its, rv, ht, _⟩ := I.tuple h
    obtain ⟨o, ho, hc, _⟩ := ht
    unfold LkT
    rw [← hc]
    exact (PySem.W.Looks.ld ho).andThen .now
theorem back_ep {Q : VK} {u : Value} {s' : Shared} (h : EP X pins σ Q u s') : PySem.W.CmpBack (EP X pins σ Q) u s' := by
  obtain ⟨v, H', I', r, q⟩ := h
  have h2 : EP X pins σ Q u s' := ⟨v, H', I', r, q⟩
  cases v with
  | non => cases r; exact h2
  | bl b => cases r; exact h2
  | int i => obtain ⟨t, rfl⟩ := r; exact h2
  | str z => obtain ⟨t, rfl⟩ := r; exact h2
  | byt b => obtain ⟨t, rfl⟩ := r; exact h2
  | flt b => obtain ⟨t, rfl⟩ := r; exact h2
  | ref a => cases r; exact h2
  | ty n => cases r; exact h2
end
section
variable {X : Cx} {C : Addr} {CXc : CXT} {k : Nat} {ps : List Str} {sp : Sp} {W : WX} {a b : Expr} {ta tb : TE} {pos : Pos} {op : Operator} {T m : String}
def tBinO (K : PySem.W.Frag) (C : Addr) (T : String) (sp : Sp) (W : WX) (ta tb : TE) : TE := fun σ H Q => ta σ H fun x H1 => tb σ H1 fun y H2 => ∃ p dx fs, x = .ref p ∧ H2 p = some (.ins C dx fs) ∧ TyO K H2 y T ∧ sp [.ref p, y] H2 Q (fun cls d H' => W cls d σ H')
theorem pe_binO (c : OwM X.prog X.w X.K X.mg X.base CXc C (PySem.dunder op.info.2) k ps sp) (B : BinF X.K C op T) (hr : Room k X.A) (hx : ∀ σ, PassesAt CXc X σ (fun cls d H' => W cls d σ H')) (ha : PE X a ta) (hb : PE X b tb) : PE X (.BinOp a op b pos) (tBinO X.K C T sp W ta tb) := by
  refine ⟨fun pins s σ H Q I h => ?_⟩
  refine wpAny_BinOp (binT ha hb I (R := fun x y H2 => ∃ p dx fs, x = .ref p ∧ H2 p = some (.ins C dx fs) ∧ TyO X.K H2 y T ∧ sp [.ref p, y] H2 Q (fun cls d H' => W cls d σ H')) h fun v u s2 x y H2 I2 rx ry q => ?_)
  obtain ⟨p, dx, fs, rfl, hp, ht, hsp⟩ := q
  obtain ⟨f, fd, ok, hfi, hf, _, hbd⟩ := c.ex
  obtain ⟨od, J⟩ := inst_of I2 hp
  cases rx
  refine bin_looks I2.kIn J B (lk_of I2 ry ht) hfi hf ?_
  refine wpAny_mono (call_at (sub_self hr) ok hbd I2 (vs := [.ref p, y]) (.cons rfl (.cons ry .nil)) hsp (fun e s' z => hx σ pins H2 s2 e s' I2 z)) (fun u s' z => back_ep z) fun _ _ z => z
end
/-! ### iter(t), t a tuple -/
def TiO (t it : Addr) : HO := .ext fun h => h.IsTupleIter it t 0
theorem tiO_ok {P : Program} {w : World} {H : Hp} {h : Heap} {t it : Addr} (e : h.IsTupleIter it t 0) : ObjOk P w H h it (TiO t it) := by
  obtain ⟨o, ho, hc, hd⟩ := id e
  exact ⟨e, ⟨o, ho⟩, fun h1 h2 z k => z.at fun o e => k _ e⟩
def rIterT (K : PySem.W.Frag) (n : Nat) : List V → Hp → VK → Prop := fun xs H Q => ∃ (t : Addr) (zs : List V), xs = [.ref t] ∧ SqT K H t zs ∧ ∀ it, H it = none → n ≤ it → Q (.ref it) (upd H it (TiO t it))
theorem call_iterT {X : Cx} : CallR X (.builtin "iter") (rIterT X.K X.s_0.heap.objs.size) := by
  intro pins s σ H xs us Q I r h
  obtain ⟨t, zs, rfl, hq, q⟩ := h
  cases r with
  | cons r1 r2 =>
    cases r2
    cases r1
    obtain ⟨its, rv, pl, hz⟩ := I.tuple hq
    refine Calls.call_function_entry (by decide +kernel) (by decide +kernel) PySem.W.kdk_entry_iter (PySem.W.kdk_args_iter _) ?_
    unfold Builtin.«iter»
    refine wpAny_bind (m := someArgs "iter" 1 2 _) (wpAny_of_eq (a := [Value.ref t]) (by first | rfl | kernel_rfl!) ?_)
    show wpAny _ _ (pyIter (.ref t) >>= _) _ _ _
    refine wpAny_bind (wpAny_pyIter_tuple pl ?_)
    refine wpAny_pure ⟨_, rfl, .ref s.heap.objs.size, _, I.laid (t' := s.toks) (fun b u e => Heap.get?_push_of_some _ e) (Nat.le_refl _) (tiO_ok ⟨_, Heap.get?_push_size _ rfl, rfl, rfl⟩), rfl, q _ (I.hok.fresh (Nat.le_refl _)) I.sz⟩
end Ow
namespace Ow
open PySem PySem.Spec PyProof.Rows L2 Bx TL Dx Zx ItX
/-- a def of the text, called at a state that one knows -/
theorem run_here {CX : CXT} {P : Program} {w : World} {K : PySem.W.Frag} {mg : Str → Option Value} {base : Heap} {k : Nat} {f : Addr} {nm qn : Str} {params : Arguments} {body : List Stmt} {scope : Scope} {dV kV doc pm cdv ct oc : Value} {an od : Option Addr} {osl : Array (Option Value)} {N ps : List Str}
    {A : Around} {outer : List Env} {s : Shared} {H : Hp} {args : Args} {us : List Value} {vs : List V} {Q : VK} {E : XK} (lk : K.lookup f = some ⟨oc, od, .func (PySem.W.fnOf nm qn params body scope dV kV doc pm an cdv ct), osl⟩) (cd : PySem.W.codeIn K cdv qn = true) (S : FnScope N ps scope) (room : Room (k + 1) A)
    (e0 : Env0 P w K mg base A outer s H) (hb : BindsTo s (PySem.W.fnOf nm qn params body scope dV kV doc pm an cdv ct) args (ps.zip us)) (rel : Vals vs us) (len : vs.length = ps.length)
    (reads : Room k (A.deeper (envOfC qn scope s.heap.objs.size f cdv)) → ∃ t, PSs (cxOf CX P w K mg base N qn scope f cdv A outer s H E) body t ∧ t { nx := fun _ H' => Q .non H', rt := Q } (start N vs) H) :
    codeAny (model P w) A (.call (.ref f) args) (CR CX outer P w H s Q E) s := by
  have kx : K.In s.heap := e0.mod.kin.keeps (fun p q z => (e0.bs p q z).1)
  have open_ : s.heap.NoLimit := e0.mod.nolimit.keeps (fun p q z => (e0.bs p q z).1)
  have kinds : ∀ y ∈ ps.zip us, scope.names.lookup y.1 = some .local ∨ (scope.names.lookup y.1 = some .cell ∧ ((cellsFrom (s.heap.objs.size + 1) scope.names []).lookup y.1).isSome = true) := by
    rintro ⟨one, val⟩ hy
    exact (S.par one (List.of_mem_zip hy).1).imp id (fun q => ⟨q, PySem.W.cellsFrom_some _ _ _ (.inl q)⟩)
  refine codeAny_call_function room.depth (kx _ _ lk) rfl S.co S.gen rfl (PySem.W.codeRec_of kx cd) ?_
  refine hb _ _ _ _ ?_
  refine wpAny_newFunctionEnv_cells S.kind kinds (fun env he s1 x => ?_)
  cases he
  refine ⟨open_.keeps x.toInCall.keep, codeAny_func ?_⟩
  obtain ⟨t, pt, ht⟩ := reads (room.deeper _)
  have J0 := inv_start (CX := CX) (E := E) S room.hd e0 len rel x
  refine wpAny_mono (pt.run [] s1 (start N vs) H _ J0 ht) ?_ (fun e s' z => z)
  intro fl s' back
  match fl, back with
  | .ret u, ⟨v, σ', H', J, rv, q⟩ => exact ⟨v, H', J.os, J.bare, J.base, J.hok, rv, q⟩
  | .next, ⟨σ', H', J, q⟩ => exact ⟨V.non, H', J.os, J.bare, J.base, J.hok, rfl, q⟩
  | .brk, ⟨_, _, _, q⟩ => exact q.elim
  | .cont, ⟨_, _, _, q⟩ => exact q.elim
/-! ### for x in o, where def __iter__(self): return iter(self.f) -/
structure ItM (P : Program) (w : World) (K : PySem.W.Frag) (mg : Str → Option Value) (base : Heap) (C : Addr) (f : Str) (k : Nat) : Prop where
  ex : ∃ fi : Addr, PySem.W.findIn K (.ref C) "__iter__" = some (some (.ref fi)) ∧ PySem.W.isFn K (.ref fi) = true ∧
    ∀ (A : Around) (outer : List Env) (s : Shared) (H : Hp) (E : XK) (p dx t : Addr) (fs : List (Str × V)) (zs : List V), Room k A → Env0 P w K mg base A outer s H → H p = some (.ins C dx fs) → fs.lookup f = some (.ref t) → SqT K H t zs →
      codeAny (model P w) A (.call (.ref fi) ⟨[.ref p], []⟩) (CR CX0 outer P w H s (fun v H' => ∃ it, v = .ref it ∧ H it = none ∧ s.heap.objs.size ≤ it ∧ H' = upd H it (TiO t it)) E) s
section
variable {X : Cx} {C : Addr}
def tIterO (K : PySem.W.Frag) (C : Addr) (f : Str) (te : TE) : TI := fun σ H R => te σ H fun x H1 => ∃ p dx fs t zs, x = .ref p ∧ H1 p = some (.ins C dx fs) ∧ fs.lookup f = some (.ref t) ∧ SqT K H1 t zs ∧ R (Itt K t) H1
theorem pi_iterO {tg l : Expr} {te : TE} {k : Nat} {f : Str} (c : ItM X.prog X.w X.K X.mg X.base C f k) (hr : Room k X.A) (he : PE X l te) : PI X tg l (tIterO X.K C f te) := by
  refine ⟨fun pins s σ H R I h => ?_⟩
  refine thn (he.run pins s σ H _ I h) fun v s1 ⟨x, H1, I1, r1, q1⟩ => ?_
  obtain ⟨p, dx, fs, t, zs, rfl, hp, hl, hz, hR⟩ := q1
  obtain ⟨fi, hfi, hf, go⟩ := c.ex
  obtain ⟨od, J⟩ := inst_of I1 hp
  obtain ⟨m, hF⟩ := I1.fr
  cases r1
  refine PySem.W.owit_iter hF I1.ok.mod.kin J hfi hf ?_
  refine wpAny_call (codeAny_mono (go X.A X.stack s1 H1 E0 p dx t fs zs hr I1.env0 hp hl hz) fun res s' back => ?_)
  match res, back with
  | .error e, back => exact back.elim
  | .ok .next, back => exact back.elim
  | .ok .brk, back => exact back.elim
  | .ok .cont, back => exact back.elim
  | .ok (.ret u), back =>
    obtain ⟨v, H2, I2, rv, it, rfl, n1, hy, rfl⟩ := I1.after back
    cases rv
    have e2 : upd H1 it (TiO t it) it = some (TiO t it) := upd_same
    have hit : s'.heap.IsTupleIter it t 0 := by
      have : ObjOk X.prog X.w (upd H1 it (TiO t it)) s'.heap it (.ext fun h => h.IsTupleIter it t 0) := I2.hok it _ e2
      exact this.1
    show wpAny _ _ (specialOf (.ref it) "__next__") _ _ _
    refine wpAny_specialOf (name := Str.ofString "__next__") hit.typeIs PySem.F.slot_tuple_iterator_next.lookup ?_
    have hn : X.s_0.heap.objs.size ≤ it := Nat.le_trans I1.sz hy
    have I3 := inv_drop I2 e2
    have fp := inv_fp I2 e2 hn
    rw [dropH_upd n1] at I3 fp
    refine ⟨it, [it], _, _, H1, rfl, I3, turn_tuple t it, hit, fun b hb => ?_, hR⟩
    rw [List.mem_singleton.mp hb]
    exact fp
end
end Ow
/-! Own classes: o + p of one class, k * o, -o; dict(t) of a tuple of pairs. -/
namespace Ow
open PySem PySem.Spec PyProof.Rows L2 Bx TL Dx Zx ItX
theorem bin_same {prog : Program} {w : World} {A : Around} {E : Value → Shared → Prop} {s : Shared} {K : PySem.W.Frag} {x y C f : Addr} {ox oy : Obj} {od oe : Option Obj} {op : Operator} {Q : Value → Shared → Prop}
    (X : K.In s.heap) (I : PySem.W.InstAt s.heap x ox C od) (J : PySem.W.InstAt s.heap y oy C oe) (first : PySem.W.selfFirst K C = true) (hs : PySem.W.findIn K (.ref C) (PySem.dunder op.info.2) = some (some (.ref f))) (hf : PySem.W.isFn K (.ref f) = true)
    (h : wpAny (model prog w) A (call (.ref f) [.ref x, .ref y]) (PySem.W.CmpBack Q) E s) : wpAny (model prog w) A (binaryOp op (.ref x) (.ref y)) Q E s := by
  obtain ⟨cd, rest, hcd, hm⟩ := PySem.W.ksp_first first
  cases hi : op.info with
  | mk sym nm =>
    rw [hi] at hs
    dsimp only at hs
    have called := PySem.W.ksp_try X I hs hf h
    have d1 : PySem.W.Looks (model prog w) s.heap (typeOf (.ref x)) (.ref C) := I.type
    have d2 : PySem.W.Looks (model prog w) s.heap (typeOf (.ref y)) (.ref C) := J.type
    have d3 : PySem.W.Looks (model prog w) s.heap (fillsNumberSlot (.ref C) nm) true := PySem.W.fills_K X hcd hm hs
    clear X I J hs hf h
    obtain ⟨hp, g, dd, tt, os⟩ := s
    have same : (Value.ref C == Value.ref C) = true := beq_self_eq_true _
    simp only [binaryOp, hi]
    refine wpAny_holding (wpAny_bind ?_)
    unfold binaryOp1
    refine wpAny_bind (d1.at (wpAny_bind ?_))
    refine d2.at (wpAny_bind (d3.at ?_))
    simp only [same, if_true]
    ksp_lk
    refine wpAny_mono called (fun r s' z => ?_) fun _ _ e => e
    obtain ⟨v, rfl, z⟩ := z
    ksp_lk
    exact z
section
variable {X : Cx} {C : Addr} {k : Nat} {ps : List Str} {sp : Sp} {op : Operator}
def rBinSame (C : Addr) (sp : Sp) : V → V → Hp → VK → Prop := fun x y H Q => ∃ p q dx dy fs gs, x = .ref p ∧ y = .ref q ∧ H p = some (.ins C dx fs) ∧ H q = some (.ins C dy gs) ∧ sp [.ref p, .ref q] H Q E0
theorem op_same (c : OwM X.prog X.w X.K X.mg X.base CX0 C (PySem.dunder op.info.2) k ps sp) (first : PySem.W.selfFirst X.K C = true) (hr : Room k X.A) : OpR X (binaryOp op) (rBinSame C sp) := by
  intro pins s σ H x y u v Q I rx ry h
  obtain ⟨p, q, dx, dy, fs, gs, rfl, rfl, hp, hq, hsp⟩ := h
  obtain ⟨f, fd, ok, hs, hf, _, hb⟩ := c.ex
  obtain ⟨od, J⟩ := inst_of I hp
  obtain ⟨oe, J2⟩ := inst_of I hq
  cases rx
  cases ry
  refine bin_same I.kIn J J2 first hs hf ?_
  refine wpAny_mono (call_at (sub_self hr) ok hb I (vs := [.ref p, .ref q]) (.cons rfl (.cons rfl .nil)) hsp (fun e s' z => z.elim)) (fun u s' z => back_ep z) fun _ _ z => z
/-- o op x -/
def rBinT (K : PySem.W.Frag) (C : Addr) (T : String) (sp : Sp) : V → V → Hp → VK → Prop := fun x y H Q => ∃ p dx fs, x = .ref p ∧ H p = some (.ins C dx fs) ∧ TyO K H y T ∧ sp [.ref p, y] H Q E0
theorem op_ownT {T : String} (c : OwM X.prog X.w X.K X.mg X.base CX0 C (PySem.dunder op.info.2) k ps sp) (B : BinF X.K C op T) (hr : Room k X.A) : OpR X (binaryOp op) (rBinT X.K C T sp) := by
  intro pins s σ H x y u v Q I rx ry h
  obtain ⟨p, dx, fs, rfl, hp, ht, hsp⟩ := h
  obtain ⟨f, fd, ok, hs, hf, _, hb⟩ := c.ex
  obtain ⟨od, J⟩ := inst_of I hp
  cases rx
  refine bin_looks I.kIn J B (lk_of I ry ht) hs hf ?_
  refine wpAny_mono (call_at (sub_self hr) ok hb I (vs := [.ref p, y]) (.cons rfl (.cons ry .nil)) hsp (fun e s' z => z.elim)) (fun u s' z => back_ep z) fun _ _ z => z
/-- -o -/
theorem un_negO (c : OwM X.prog X.w X.K X.mg X.base CX0 C "__neg__" k ps sp) (hr : Room k X.A) : UnR X (unaryOp .USub) (fun x H Q => ∃ p dx fs, x = .ref p ∧ H p = some (.ins C dx fs) ∧ sp [.ref p] H Q E0) := by
  intro pins s σ H x u Q I rx h
  obtain ⟨p, dx, fs, rfl, hp, hsp⟩ := h
  obtain ⟨f, fd, ok, hs, hf, _, hb⟩ := c.ex
  obtain ⟨od, J⟩ := inst_of I hp
  obtain ⟨m, hF⟩ := I.fr
  cases rx
  refine PySem.W.ksp_neg hF I.ok.mod.kin J hs hf ?_
  exact call_at (sub_self hr) ok hb I (vs := [.ref p]) (.cons rfl .nil) hsp (fun e s' z => z.elim)
/-- o[i] -/
theorem pe_subO0 {a b : Expr} {ta tb : TE} {pos : Pos} (c : OwM X.prog X.w X.K X.mg X.base CX0 C "__getitem__" k ps sp) (fi : ∀ f, PySem.W.findIn X.K (.ref C) "__getitem__" = some (some (.ref f)) → PySem.W.fnIn X.K f = true) (hr : Room (k + 1) X.A) (ha : PE X a ta) (hb : PE X b tb)
    (hs : ∀ v u, subscripted b true v u = runValue (.builtin "lifetime.subscript" ⟨[v, u], []⟩) := by intro _ _; rfl) : PE X (.Subscript a b pos) (tSubO C sp (fun _ _ _ _ => False) ta tb) :=
  pe_subO c fi hr (fun _ _ _ _ _ _ _ h => h.elim) ha hb hs
end
end Ow
/-! tuple(xs) without a dict of its own; dict(t) of such a tuple of pairs; k * o. -/
namespace Ow
open PySem PySem.Spec PyProof.Rows L2 Bx TL Dx Zx ItX
/-- a tuple without a dict of its own -/
def PlT (H : Hp) (a : Addr) (xs : List V) : Prop := ∃ o, H a = some (.frz o (.tup xs)) ∧ o.dict = none
theorem PlT.sq {K : PySem.W.Frag} {H : Hp} {a : Addr} {xs : List V} (h : PlT H a xs) : SqT K H a xs := .inl (.inr ⟨_, h.choose_spec.1⟩)
theorem PlT.same {H H' : Hp} {a : Addr} {xs : List V} (s : Same H H') (h : PlT H a xs) : PlT H' a xs := ⟨_, s _ _ h.choose_spec.1, h.choose_spec.2⟩
section
variable {X : Cx}
def rTupF (K : PySem.W.Frag) : List V → Hp → VK → Prop := fun xs H Q => ∃ p ys, xs = [.ref p] ∧ SqL K H p ys ∧ ∀ l o, H l = none → o.dict = none → Q (.ref l) (upd H l (.frz o (.tup ys)))
theorem call_tupleF : CallR X (.type "tuple") (rTupF X.K) := by
  intro pins s σ H xs us Q I r h
  obtain ⟨p, ys, rfl, hq, q⟩ := h
  obtain ⟨u, rfl, rx⟩ := vals1 r
  cases rx
  obtain ⟨its, r', pl, hz⟩ := I.list hq
  have hlen := r'.length
  refine call_tuple_list pl.isList (fun h' kp => ?_) (by simp only [List.size_toArray] <;> omega)
  have I1 : Inv X pins σ H { s with heap := h' } := I.kept (t' := s.toks) kp
  let o : Obj := { cls := .type "tuple", data := .seq its.toArray }
  have I2 : Inv X pins σ (upd H h'.objs.size (.frz o (.tup ys))) { s with heap := h'.push o } :=
    I1.laid (t' := s.toks) (fun b o e => Heap.get?_push_of_some _ e) (Nat.le_refl _) (show ObjOk X.prog X.w _ _ _ (.frz o (.tup ys)) from ⟨Heap.get?_push_size _ rfl, hz, its, r', IsTup.new _ _⟩)
  exact ⟨.ref h'.objs.size, _, I2, rfl, q _ o (I1.hok.fresh (Nat.le_refl _)) rfl⟩
def rDictT (K : PySem.W.Frag) : List V → Hp → VK → Prop := fun xs H Q => ∃ (a : Addr) (ps : List Addr) (kvs : List (Key × V)), xs = [.ref a] ∧ PlT H a (ps.map V.ref) ∧ Paired (fun p kv => SqT K H p [kV kv.1, kv.2]) ps kvs ∧
    ∀ p, H p = none → Q (.ref p) (upd H p (.dK (mergeK [] kvs)))
theorem call_dictT (hcalm : X.calm = true) : CallR X (.type "dict") (rDictT X.K) := by
  intro pins s σ H xs us Q I r q
  obtain ⟨a, ps, kvs, rfl, ⟨o, ha, hod⟩, hp, q⟩ := q
  obtain ⟨u, rfl, rx⟩ := vals1 r
  cases rx
  obtain ⟨hg, hz, its, rv, o2, ho2, hc, n, hdat⟩ : ObjOk X.prog X.w H s.heap a (.frz o (.tup (ps.map V.ref))) := I.hok a _ ha
  rw [hg] at ho2
  obtain rfl := Option.some.inj ho2
  have ei := refs_at rv
  subst ei
  obtain ⟨prs, rel, hl, hpr⟩ := pairs_of I hp
  rw [List.length_map] at hz
  have at_ : ∀ (j : Nat) (q : Key × Value), prs[j]? = some q → ∃ u : Value, IsTup s.heap (ps.getD j 0) #[u, q.2] ∧ ps[j]? = some (ps.getD j 0) ∧ keyIs q.1 u = true := fun j q e => by
    obtain ⟨b, u, e1, e2, e3⟩ := hpr j q e
    have e4 : ps.getD j 0 = b := by rw [List.getD_eq_getElem?_getD, e1]; rfl
    rw [e4]
    exact ⟨u, e2, e1, e3⟩
  classical
  let key : Nat → Value := fun j => match prs[j]? with
    | some q => (if h : ∃ u : Value, IsTup s.heap (ps.getD j 0) #[u, q.2] ∧ keyIs q.1 u = true then h.choose else .none)
    | none => .none
  have keyAt : ∀ (j : Nat) (q : Key × Value), prs[j]? = some q → IsTup s.heap (ps.getD j 0) #[key j, q.2] ∧ keyIs q.1 (key j) = true := fun j q e => by
    obtain ⟨u, h1, _, h3⟩ := at_ j q e
    have hh : ∃ u : Value, IsTup s.heap (ps.getD j 0) #[u, q.2] ∧ keyIs q.1 u = true := ⟨u, h1, h3⟩
    have ek : key j = hh.choose := by
      show (match prs[j]? with | some q => _ | none => _) = _
      rw [e]
      exact dif_pos hh
    rw [ek]
    exact hh.choose_spec
  let vps : List (Value × Value) := (List.range prs.length).map fun j => (key j, match prs[j]? with | some q => q.2 | none => .none)
  have vlen : vps.length = prs.length := by simp [vps]
  have vat : ∀ j k v, vps[j]? = some (k, v) → ∃ q : Key × Value, prs[j]? = some q ∧ k = key j ∧ v = q.2 := fun j k v e => by
    have hj : j < prs.length := by
      have := (List.getElem?_eq_some_iff.mp e).1
      omega
    have e1 : prs[j]? = some prs[j] := List.getElem?_eq_getElem hj
    refine ⟨prs[j], e1, ?_⟩
    have e2 : vps[j]? = some (key j, prs[j].2) := by
      simp only [vps, List.getElem?_map, List.getElem?_range hj, Option.map_some, e1]
    rw [e2] at e
    cases e
    exact ⟨rfl, rfl⟩
  have P := PySem.PairArg.tuple (prog := X.prog) (w := X.w) a (ps.map Value.ref).toArray (fun j => ps.getD j 0) vps
  refine PySem.call_dict_pairs (knd := mixKind X.prog X.w) (kvs := prs) P (I.ok.hd hcalm) ⟨⟨o, n, hg, hc, hod, hdat⟩, by rw [List.size_toArray, List.length_map, vlen, hl], fun j k v e => ?_⟩ ⟨vlen.symm, fun i k v e => ?_⟩ (by rw [vlen, hl]; exact hz) fun h' tk hd' kp => ?_
  · obtain ⟨q, e1, rfl, rfl⟩ := vat j k v e
    obtain ⟨u, _, e3, _⟩ := at_ j q e1
    refine ⟨?_, .inl (keyAt j q e1).1⟩
    rw [List.getElem?_toArray, List.getElem?_map, e3]
    rfl
  · obtain ⟨q, e1, rfl, rfl⟩ := vat i k v e
    exact ⟨q.1, e1, (keyAt i q e1).2⟩
  · have hm : (s.heap.objs.size == sysModules) = false := beq_eq_false_iff_ne.mpr (Nat.ne_of_gt I.big)
    have hlen : (mergeK [] kvs).length ≤ sizeLine := by
      refine Nat.le_trans (length_mergeK kvs []) ?_
      rw [List.length_nil, Nat.zero_add, rel.length, hl]
      exact hz
    exact ⟨.ref s.heap.objs.size, upd H s.heap.objs.size (.dK (mergeK [] kvs)), I.laid (t' := tk) (fun b o e => kp b o (fun h => nomatch h) e) (Nat.le_refl _) (show ObjOk X.prog X.w _ _ _ (.dK (mergeK [] kvs)) from ⟨hlen, hm, merged [] prs, KV.merge rel .nil, hd'⟩), rfl, q _ (I.hok.fresh (Nat.le_refl _))⟩
end
/-! ### k * o -/
theorem int_mul_ins (a : Int) (t : Tok) (l C dx : Addr) :
    Meets (Builtin.«int.__mul__» ⟨[.int a t, .ref l], []⟩) (fun _ R s => s.heap.get? l = some (PySem.W.instObj C dx) ∧ R (.ok (.ret Value.notImplemented)) s) :=
  .of_wp fun prog w A R s h => by obtain ⟨hp, g, d, tk, os⟩ := s; obtain ⟨hl, h⟩ := h; wp_walk; exact ⟨_, rfl, h⟩
theorem int_declines {prog : Program} {w : World} {A : Around} {E : Value → Shared → Prop} {s : Shared} {k : Int} {t : Tok} {x C dx : Addr} {Q : Value → Shared → Prop} (hg : s.heap.get? x = some (PySem.W.instObj C dx)) (q : Q .notImplemented s) :
    wpAny (model prog w) A (call (.builtin "int.__mul__") [.int k t, .ref x]) Q E s :=
  call_meets F.slot_int_mul (typeIs_int s k t) F.entry_int_mul (F.args_int_mul_2 _ _) (int_mul_ins k t x C dx) ⟨hg, q⟩
theorem try_declines {prog : Program} {w : World} {A : Around} {E : Value → Shared → Prop} {s : Shared} {k : Int} {t : Tok} {x C dx : Addr} {Q : Option Value → Shared → Prop} (hg : s.heap.get? x = some (PySem.W.instObj C dx)) (q : Q none s) :
    wpAny (model prog w) A (tryMethod (.int k t) (dunder "mul") (.ref x)) Q E s := by
  refine wpAny_tryMethod_declines (T := "int") (name := dunder "mul") (id := "int.__mul__") ?_ ?_ ?_
  · exact typeIs_int s k t
  · exact F.slot_int_mul
  exact int_declines hg ⟨rfl, q⟩
theorem bin_right {prog : Program} {w : World} {A : Around} {E : Value → Shared → Prop} {s : Shared} {K : PySem.W.Frag} {x C f dx : Addr} {od : Option Obj} {k : Int} {t : Tok} {Q : Value → Shared → Prop}
    (X : K.In s.heap) (I : PySem.W.InstAt s.heap x (PySem.W.instObj C dx) C od) (first : PySem.W.selfFirst K C = true) (hl : PySem.W.findIn K (.ref C) "__mul__" = some (some (.ref f))) (hs : ∃ g : Addr, PySem.W.findIn K (.ref C) "__rmul__" = some (some (.ref g)) ∧ PySem.W.isFn K (.ref g) = true ∧
      wpAny (model prog w) A (call (.ref g) [.ref x, .int k t]) (PySem.W.CmpBack Q) E s)
    (hsub : PySem.W.subIn K (.ref C) (.type "int") = some false) : wpAny (model prog w) A (binaryOp .Mult (.int k t) (.ref x)) Q E s := by
  obtain ⟨g, hr, hf, h⟩ := hs
  obtain ⟨cd, rest, hcd, hm⟩ := PySem.W.ksp_first first
  have hg : s.heap.get? x = some (PySem.W.instObj C dx) := by
    exact I.at_
  have called := PySem.W.ksp_try X I hr hf h
  have d1 : PySem.W.Looks (model prog w) s.heap (typeOf (.ref x)) (.ref C) := I.type
  have d3 : PySem.W.Looks (model prog w) s.heap (fillsNumberSlot (.ref C) "mul") true := PySem.W.fills_K X hcd hm hl
  have d5 : PySem.W.Looks (model prog w) s.heap (isSubtype (.ref C) (.type "int")) false := PySem.W.looks_subIn X hsub
  clear X I hl hr hf h
  simp only [binaryOp]
  refine wpAny_holding (wpAny_bind ?_)
  show wpAny _ _ (binaryOp1 "mul" _ _) _ _ _
  simp only [binaryOp1]
  refine wpAny_bind (wpAny_typeOf (typeIs_int s k t) (wpAny_bind (d1.at (wpAny_bind (wpAny_of_eq F.fills_int_mul ?_)))))
  have hne : (Value.type "int" == Value.ref C) = false := Bool.eq_false_iff.mpr fun q => by cases beq_iff_eq.mp q
  simp only [hne, Bool.false_eq_true, if_false]
  refine wpAny_bind (d3.at ?_)
  simp only [Bool.and_self, if_true]
  refine wpAny_bind (d5.at ?_)
  have hpy : numberSlotInPython (.type "int") "mul" = pure false := rfl
  simp only [Bool.false_eq_true, if_false, pure_bind, Bool.not_false, Bool.and_self, if_true, hpy]
  refine wpAny_bind (try_declines hg ?_)
  refine wpAny_bind (wpAny_mono called (fun r s' z => ?_) fun _ _ e => e)
  obtain ⟨v, rfl, z⟩ := z
  exact wpAny_bind (wpAny_rule (wpAny_pure (wpAny_pure z)))
section
variable {X : Cx} {C : Addr} {k : Nat} {ps : List Str} {sp : Sp}
/-- k * o -/
def rMulR (C : Addr) (sp : Sp) : V → V → Hp → VK → Prop := fun x y H Q => ∃ p dx fs n, x = .int n ∧ y = .ref p ∧ H p = some (.ins C dx fs) ∧ sp [.ref p, .int n] H Q E0
theorem op_mulR (c : OwM X.prog X.w X.K X.mg X.base CX0 C "__rmul__" k ps sp) (first : PySem.W.selfFirst X.K C = true) (hl : ∃ f : Addr, PySem.W.findIn X.K (.ref C) "__mul__" = some (some (.ref f))) (hsub : PySem.W.subIn X.K (.ref C) (.type "int") = some false) (hr : Room k X.A) : OpR X (binaryOp .Mult) (rMulR C sp) := by
  intro pins s σ H x y u v Q I rx ry h
  obtain ⟨p, dx, fs, n, rfl, rfl, hp, hsp⟩ := h
  obtain ⟨f, fd, ok, hs, hf, _, hb⟩ := c.ex
  obtain ⟨fl, hfl⟩ := hl
  obtain ⟨od, J⟩ := inst_of I hp
  obtain ⟨t, rfl⟩ := id rx
  cases ry
  refine bin_right I.kIn J first hfl ⟨f, hs, hf, ?_⟩ hsub
  refine wpAny_mono (call_at (sub_self hr) ok hb I (vs := [.ref p, .int n]) (.cons rfl (.cons rx .nil)) hsp (fun e s' z => z.elim)) (fun u s' z => back_ep z) fun _ _ z => z
end
end Ow
namespace Ow
open PySem PySem.Spec PyProof.Rows L2 Bx TL Dx Zx ItX
/-! ### calls with defaults, new instances, methods, by their promises -/
structure CalD (P : Program) (w : World) (K : PySem.W.Frag) (mg : Str → Option Value) (base : Heap) (x : Str) (k : Nat) (ps : List Str) (sp : Sp) (dvs : List V) : Prop where
  ex : ∃ (f : Addr) (fd : FuncData) (ds : List Value), FnOk P w K mg base CX0 k f fd ps sp ∧ mg x = some (.ref f) ∧ PySem.W.keepIn K (.ref f) = true ∧ Binds K fd ps ds ∧ Vals dvs ds
structure MakC (P : Program) (w : World) (K : PySem.W.Frag) (mg : Str → Option Value) (base : Heap) (x : Str) (C : Addr) (k : Nat) (ps : List Str) (sp : Sp) (dvs : List V) : Prop where
  ex : ∃ (f : Addr) (fd : FuncData) (ds : List Value), Mk K C f ∧ FnOk P w K mg base CX0 k f fd ps sp ∧ mg x = some (.ref C) ∧ Binds K fd ps ds ∧ Vals dvs ds
structure MthC (P : Program) (w : World) (K : PySem.W.Frag) (mg : Str → Option Value) (base : Heap) (C : Addr) (m : Str) (k : Nat) (ps : List Str) (sp : Sp) : Prop where
  ex : ∃ (f : Addr) (fd : FuncData), Cls K C ∧ Meth K C m f ∧ FnOk P w K mg base CX0 k f fd ps sp ∧ Binds K fd ps []
section
variable {X : Cx} {x : Str} {k : Nat} {ps : List Str} {sp : Sp} {e : Expr} {es : List Expr} {t : TA} {p pos : Pos} {dvs : List V} {C : Addr}
theorem pe_calD (c : CalD X.prog X.w X.K X.mg X.base x k ps sp dvs) (hr : Room k X.A) (ha : PA X (e :: es) t) (hg : Gl X x := by rfl) (hdb : (x == ("__debug__" : Str)) = false := by decide)
    (he : starEach (e :: es) X.env = (false, eval e X.env) :: starEach es X.env := by rfl) (hpl : (backTo pos (starEach es X.env)).any (·.1) = false := by rfl) : PE X (.Call (.Name x p) (e :: es) [] pos) (tCall sp dvs E0 t) := by
  obtain ⟨f, fd, ds, ok, g, kp, b, r⟩ := c.ex
  exact pe_call (E := E0) ok hr hg g kp b r pass0 ha hdb he hpl (p := p)
theorem pe_mak (c : MakC X.prog X.w X.K X.mg X.base x C k ps sp []) (hr : Room (k + 1) X.A) (ha : PA X (e :: es) t) (hg : Gl X x := by rfl) (hdb : (x == ("__debug__" : Str)) = false := by decide)
    (he : starEach (e :: es) X.env = (false, eval e X.env) :: starEach es X.env := by rfl) (hpl : (backTo pos (starEach es X.env)).any (·.1) = false := by rfl) : PE X (.Call (.Name x p) (e :: es) [] pos) (tMake C sp [] E0 t) := by
  obtain ⟨f, fd, ds, M, ok, g, b, r⟩ := c.ex
  exact pe_make (E := E0) M ok hr hg g b r pass0 ha hdb he hpl (p := p)
theorem pe_mak0 (c : MakC X.prog X.w X.K X.mg X.base x C k ps sp dvs) (hr : Room (k + 1) X.A) (hg : Gl X x := by rfl) (hdb : (x == ("__debug__" : Str)) = false := by decide) : PE X (.Call (.Name x p) [] [] pos) (tMake C sp dvs E0 tNil) := by
  obtain ⟨f, fd, ds, M, ok, g, b, r⟩ := c.ex
  exact pe_make0 (E := E0) M ok hr hg g b r pass0 hdb (p := p)
theorem pe_mth {m : Str} {o : Expr} {to : TE} {apos : Pos} {pl : Sem Bool} (c : MthC X.prog X.w X.K X.mg X.base C m k ps sp) (hr : Room k X.A) (ho : PE X o to) (ha : PA X (e :: es) t)
    (hst : starEach (e :: es) X.env = (false, eval e X.env) :: starEach es X.env := by rfl) (hpl : (backTo pos (starEach es X.env)).any (·.1) = false := by rfl)
    (ht : eval (.Call (.Attribute o m apos) (e :: es) [] pos) X.env = (do
      let ov ← eval o X.env
      standAt apos.atName
      let (f, first) ← holding [ov] (getMethod ov m pl)
      callWith pos f first (backTo pos (starEach (e :: es) X.env)) (backToKw pos (keywordEach [] X.env))) := by rfl) : PE X (.Call (.Attribute o m apos) (e :: es) [] pos) (tMeth C m sp [] E0 to t) := by
  obtain ⟨f, fd, cl, mt, ok, b⟩ := c.ex
  exact pe_meth (E := E0) ho cl mt ok hr b .nil pass0 ha hst hpl ht
end
/-! ### // by any divisor -/
def CDivZ (_ j : Int) : Prop := j ≠ 0 ∧ j.natAbs.log2 < 9000
theorem op_fdivZ {X : Cx} : OpR X (binaryOp .FloorDiv) (rI CDivZ fun i j => .int (i.fdiv j)) := opI fun i j _ _ _ _ _ hc q => floordiv_int hc.1 q (.inl (PyProof.noPylong_of_log2 hc.2))
theorem wide_divZ {i j : Int} {b : Nat} (h : j ≠ 0) (hb : j.natAbs < 2 ^ b) (h0 : 0 < b) (h9 : b ≤ 9000) : CDivZ i j := ⟨h, Nat.lt_of_lt_of_le (PySem.Flt.log2_lt_of h0 hb) h9⟩
end Ow
/-! Calls that may raise, with a wish that knows the slots: C(..), o.m(..), f(..); C held by a local; list.count of texts. -/
namespace Px
open PySem PySem.Spec PyProof.Rows L2 Bx TL Dx Zx Ow
theorem passN {X : Cx} : Passes (L2.CX X.prog X.w) X E0 := fun _ _ _ _ _ _ _ ⟨_, _, _, _, _, _, _, _, _, _, _, _, z⟩ => z.elim
/-- `C(..)`, whose `__init__` may raise -/
structure MakX (P : Program) (w : World) (K : PySem.W.Frag) (mg : Str → Option Value) (base : Heap) (x : Str) (C : Addr) (k : Nat) (ps : List Str) (sp : Sp) : Prop where
  ex : ∃ (f : Addr) (fd : FuncData), Mk K C f ∧ FnOk P w K mg base (L2.CX P w) k f fd ps sp ∧ mg x = some (.ref C) ∧ Binds K fd ps []
structure MthX (P : Program) (w : World) (K : PySem.W.Frag) (mg : Str → Option Value) (base : Heap) (C : Addr) (m : Str) (k : Nat) (ps : List Str) (sp : Sp) : Prop where
  ex : ∃ (f : Addr) (fd : FuncData), Cls K C ∧ Meth K C m f ∧ FnOk P w K mg base (L2.CX P w) k f fd ps sp ∧ Binds K fd ps []
structure CalE (P : Program) (w : World) (K : PySem.W.Frag) (mg : Str → Option Value) (base : Heap) (x : Str) (k : Nat) (ps : List Str) (sp : Sp) : Prop where
  ex : ∃ (f : Addr) (fd : FuncData), FnOk P w K mg base (L2.CX P w) k f fd ps sp ∧ mg x = some (.ref f) ∧ PySem.W.keepIn K (.ref f) = true ∧ Binds K fd ps []
section
variable {X : Cx} {x : Str} {k : Nat} {ps : List Str} {sp : Sp} {e : Expr} {es : List Expr} {t : TA} {p pos : Pos} {C : Addr} {W : WX}
theorem run_makS {pins : List (Addr × Obj)} {σ : L2.St} {H : Hp} {s : Shared} {Q : VK} {E : XK} {us : List Value} {vs : List V} {f : Addr} {fd : FuncData} (M : Mk X.K C f) (F : FnOk X.prog X.w X.K X.mg X.base (L2.CX X.prog X.w) k f fd ps sp) (hr : Room (k + 1) X.A) (b : Binds X.K fd ps [])
    (hx : PassesAt (L2.CX X.prog X.w) X σ E) (I : Inv X pins σ H s) (rv : Vals vs us) (h : ∀ y dy, H y = none → H dy = none → dy ≠ y → sp (.ref y :: vs) (upd (upd H dy (.own y)) y (.ins C dy [])) (fun v G => v = .non ∧ Q (.ref y) G) E) :
    wpAny (model X.prog X.w) X.A (call (.ref C) us) (EP X pins σ Q) X.xe s := by
  have n1 := I.hok.fresh (Nat.le_refl s.heap.objs.size)
  have n2 := I.hok.fresh (Nat.le_succ s.heap.objs.size)
  have g := h _ _ n2 n1 (Nat.ne_of_lt (Nat.lt_succ_self s.heap.objs.size))
  have J := Inv.made (C := C) I
  have rs : Vals (V.ref (s.heap.objs.size + 1) :: vs) (Value.ref (s.heap.objs.size + 1) :: us) := .cons rfl rv
  have ln : (Value.ref (s.heap.objs.size + 1) :: us).length = ps.length := rs.length.symm.trans (F.len _ _ _ _ g)
  have bd := b _ (Value.ref (s.heap.objs.size + 1) :: us) J.kIn (by rw [List.append_nil]; exact ln)
  rw [List.append_nil] at bd
  refine wpAny_call (make_map (f := f) I.kIn M.makes M.init (beq_iff_eq.mp M.fn) (codeAny_mono (F.run _ X.stack _ _ _ _ _ _ E (hr.make C us []) (J.env0.make C us []) bd rs g) fun res s' back => ?_))
  match res, back with
  | .error er, back => exact hx pins _ _ er s' J back
  | .ok (.ret u), back =>
    obtain ⟨v, G, J2, r2, e2, q⟩ := J.after back
    subst e2
    exact ⟨r2, .ref (s.heap.objs.size + 1), G, J2, rfl, q⟩
  | .ok .next, back => exact back.elim
  | .ok .brk, back => exact back.elim
  | .ok .cont, back => exact back.elim
def tMakX (C : Addr) (sp : Sp) (W : WX) (t : TA) : TE := fun σ H Q => t σ H fun vs H1 => ∀ y dy, H1 y = none → H1 dy = none → dy ≠ y → sp (.ref y :: vs) (upd (upd H1 dy (.own y)) y (.ins C dy [])) (fun v G => v = .non ∧ Q (.ref y) G) (WE W σ)
theorem pe_makX (c : MakX X.prog X.w X.K X.mg X.base x C k ps sp) (tk : Takes X W) (hr : Room (k + 1) X.A) (ha : PA X (e :: es) t) (hg : Gl X x := by rfl) (hdb : (x == ("__debug__" : Str)) = false := by decide)
    (he : starEach (e :: es) X.env = (false, eval e X.env) :: starEach es X.env := by rfl) (hpl : (backTo pos (starEach es X.env)).any (·.1) = false := by rfl) : PE X (.Call (.Name x p) (e :: es) [] pos) (tMakX C sp W t) := by
  obtain ⟨f, fd, M, ok, g, b⟩ := c.ex
  refine ⟨fun pins s σ H Q I h => wpAny_Call_Name_kw (ld_glob I hg g ?_ hdb)⟩
  exact PySem.W.callWith_K (h₀ := X.base) I.ok.mod.kin M.kp (thn (ha.run pos pins s σ H _ I h) fun us s1 ⟨vs, H1, I1, rv, q⟩ => ⟨I1.kIn, run_makS M ok hr b (passAt tk σ) I1 rv q⟩) he hpl
theorem pe_makN (c : MakX X.prog X.w X.K X.mg X.base x C k ps sp) (hr : Room (k + 1) X.A) (ha : PA X (e :: es) t) (hg : Gl X x := by rfl) (hdb : (x == ("__debug__" : Str)) = false := by decide)
    (he : starEach (e :: es) X.env = (false, eval e X.env) :: starEach es X.env := by rfl) (hpl : (backTo pos (starEach es X.env)).any (·.1) = false := by rfl) : PE X (.Call (.Name x p) (e :: es) [] pos) (tMake C sp [] E0 t) := by
  obtain ⟨f, fd, M, ok, g, b⟩ := c.ex
  exact pe_make (E := E0) M ok hr hg g b .nil passN ha hdb he hpl (p := p)
/-- the class in a slot: `cls(..)` -/
def tMakL (i : Nat) (C : Addr) (sp : Sp) (t : TA) : TE := fun σ H Q => σ[i]? = some (some (.ref C)) ∧ tMake C sp [] E0 t σ H Q
theorem pe_makL {i : Nat} {y : Str} (c : MakX X.prog X.w X.K X.mg X.base x C k ps sp) (hr : Room (k + 1) X.A) (hN : X.N[i]? = some y) (hv : Vis X.env.scope y) (ha : PA X (e :: es) t) (hdb : (y == ("__debug__" : Str)) = false := by decide) (hcd : (y == ("__classdict__" : Str)) = false := by decide)
    (he : starEach (e :: es) X.env = (false, eval e X.env) :: starEach es X.env := by rfl) (hpl : (backTo pos (starEach es X.env)).any (·.1) = false := by rfl) : PE X (.Call (.Name y p) (e :: es) [] pos) (tMakL i C sp t) := by
  obtain ⟨f, fd, M, ok, g, b⟩ := c.ex
  refine ⟨fun pins s σ H Q I h => ?_⟩
  obtain ⟨h1, h2⟩ := h
  refine wpAny_Call_Name_kw (thn ((pe_var (pos := p) hN hv hdb hcd).run pins s σ H (fun v G => v = .ref C ∧ G = H) I ⟨.ref C, h1, rfl, rfl⟩) fun u s1 ⟨v, G, I1, r1, q1⟩ => ?_)
  obtain ⟨rfl, rfl⟩ := q1
  cases r1
  exact PySem.W.callWith_K (h₀ := X.base) I.ok.mod.kin M.kp (thn (ha.run pos pins s1 σ _ _ I1 h2) fun us s2 ⟨vs, H2, I2, rv, q⟩ => ⟨I2.kIn, run_make M ok hr b .nil passN I2 rv q⟩) he hpl
def tMthX (C : Addr) (m : Str) (sp : Sp) (W : WX) (ta : TE) (t : TA) : TE := fun σ H Q => ta σ H fun v H1 => ∃ a dx fs, v = .ref a ∧ H1 a = some (.ins C dx fs) ∧ fs.lookup m = none ∧ t σ H1 fun vs H2 => sp (v :: vs) H2 Q (WE W σ)
theorem pe_mthX {m : Str} {o : Expr} {to : TE} {apos : Pos} {pl : Sem Bool} (c : MthX X.prog X.w X.K X.mg X.base C m k ps sp) (tk : Takes X W) (hr : Room k X.A) (ho : PE X o to) (ha : PA X (e :: es) t)
    (hst : starEach (e :: es) X.env = (false, eval e X.env) :: starEach es X.env := by rfl) (hpl : (backTo pos (starEach es X.env)).any (·.1) = false := by rfl)
    (ht : eval (.Call (.Attribute o m apos) (e :: es) [] pos) X.env = (do
      let ov ← eval o X.env
      standAt apos.atName
      let (f, first) ← holding [ov] (getMethod ov m pl)
      callWith pos f first (backTo pos (starEach (e :: es) X.env)) (backToKw pos (keywordEach [] X.env))) := by rfl) : PE X (.Call (.Attribute o m apos) (e :: es) [] pos) (tMthX C m sp W to t) := by
  obtain ⟨f, fd, cl, mt, ok, b⟩ := c.ex
  refine ⟨fun pins s σ H Q I h => PySem.W.methodCall_KW (pl := pl) (thn (ho.run pins s σ H _ I h) fun u s1 ⟨v, H1, I1, rx, a, dx, fs, ev, ea, l, q⟩ => ?_) ht⟩
  subst ev
  cases rx
  refine getmeth_ok I1 ea cl mt l (PySem.W.callWith_K (first := [.ref a]) (h₀ := X.base) I.ok.mod.kin mt.kp (thn (ha.run pos pins s1 σ H1 _ I1 q) fun us s2 ⟨vs, H2, I2, rv, q2⟩ => ⟨I2.kIn, ?_⟩) hst hpl)
  exact run_fnS (E := fun σ => WE W σ) (us := .ref a :: us) (vs := .ref a :: vs) ok hr b (passAt tk σ) I2 (.cons rfl rv) q2
theorem pe_calE (c : CalE X.prog X.w X.K X.mg X.base x k ps sp) (tk : Takes X W) (hr : Room k X.A) (ha : PA X (e :: es) t) (hg : Gl X x := by rfl) (hdb : (x == ("__debug__" : Str)) = false := by decide)
    (he : starEach (e :: es) X.env = (false, eval e X.env) :: starEach es X.env := by rfl) (hpl : (backTo pos (starEach es X.env)).any (·.1) = false := by rfl) : PE X (.Call (.Name x p) (e :: es) [] pos) (tCallS sp (fun σ => WE W σ) t) := by
  obtain ⟨f, fd, ok, g, kp, b⟩ := c.ex
  exact pe_callS ok hr hg g kp b (fun σ => passAt tk σ) ha hdb he hpl (p := p)
end
/-! ### xs.count(x) of texts -/
section
variable {X : Cx}
def rCntS (K : PySem.W.Frag) : V → List V → Hp → VK → Prop := fun x xs H Q => ∃ (p : Addr) (ns : List Str) (z : Str), x = .ref p ∧ xs = [.str z] ∧ SqL K H p (ns.map V.str) ∧ Q (.int (ns.count z : Nat)) H
theorem plain_strs : ∀ ns : List Str, PyData.plainAll (ns.map PyData.str) = true
  | [] => rfl
  | n :: ns => by
    show (PyData.plain (PyData.str n) && PyData.plainAll (ns.map PyData.str)) = true
    rw [plain_strs ns]
    rfl
theorem depth_strs : ∀ ns : List Str, PyData.depthAll (ns.map PyData.str) ≤ 1
  | [] => Nat.zero_le 1
  | n :: ns => by
    show max (PyData.depth (PyData.str n)) (PyData.depthAll (ns.map PyData.str)) ≤ 1
    exact Nat.max_le.mpr ⟨by show 0 ≤ 1; omega, depth_strs ns⟩
theorem cnt_strs (z : Str) : ∀ ns : List Str, (ns.map PyData.str).countP (fun y => PyData.eqv y (.str z)) = ns.count z
  | [] => rfl
  | n :: ns => by
    rw [List.map_cons, List.countP_cons, List.count_cons, cnt_strs z ns]
    rfl
theorem mt_lcountS (hu : X.A.units + 65 < cLine) : MtR X "list.count" (rCntS X.K) := by
  intro pins s σ H x xs v us Q I rx rxs h
  obtain ⟨p, ns, z, rfl, rfl, hs, q⟩ := h
  cases rx
  obtain ⟨u, rfl, ru⟩ := rxs.one
  obtain ⟨t, rfl⟩ := ru
  obtain ⟨its, rv, pl, _⟩ := I.list hs
  obtain ⟨as, ra⟩ := Dp.readsAll I _ _ its (dp_strs ns) rv
  refine SeqAt.count_list_data pl.isList (by simpa using ra) (Reads.str z t) (plain_strs ns) rfl ?_ ?_
  · have := depth_strs ns
    have := Nat.min_le_left (PyData.depthAll (ns.map PyData.str)) (PyData.depth (.str z))
    omega
  · rw [cnt_strs]
    exact ⟨.int (ns.count z : Nat), H, I.tok _, ⟨s.toks, rfl⟩, q⟩
end
end Px
set_option maxHeartbeats 4000000
/-! t * k for any k from 0 on, t a tuple with items. -/
namespace Px
open PySem PySem.Spec PyProof.Rows L2 Bx TL Dx Zx Ow
theorem mul_one (l : Addr) (its : Array Value) (n : Nat) (dd : Option Addr) (sl : Array (Option Value)) (u : Tok) :
    Meets (Builtin.«tuple.__mul__» ⟨[.ref l, .int 1 u], []⟩) (fun _ R s => s.heap.get? l = some { cls := .type "tuple", dict := dd, data := .seq its n, slots := sl } ∧ R (.ok (.ret (.ref l))) s) :=
  .of_wp fun prog w A R s h => by
    obtain ⟨hp, g, d, tk, os⟩ := s
    obtain ⟨hl, h⟩ := h
    have f1 := AutoSeq1.idx_int
    have c1 : (its.isEmpty || (1 : Int) == 1) = true := by rw [show ((1 : Int) == 1) = true from rfl, Bool.or_true]
    wp_walk using wpAny_loadPart' hl
    repeat (first
      | (refine wpAny_ite_true (decide_eq_true c1) ?_; wp_walk using wpAny_loadPart' hl)
      | (refine wpAny_ite_false (by decide) ?_; wp_walk using wpAny_loadPart' hl))
    exact ⟨_, rfl, h⟩
theorem mul_nil (l : Addr) (its : Array Value) (n : Nat) (dd : Option Addr) (sl : Array (Option Value)) (u : Tok) (hi : its.isEmpty = false) :
    Meets (Builtin.«tuple.__mul__» ⟨[.ref l, .int 0 u], []⟩) (fun _ R s => s.heap.get? l = some { cls := .type "tuple", dict := dd, data := .seq its n, slots := sl } ∧
      R (.ok (.ret (Value.ref s.heap.objs.size))) { s with heap := s.heap.push { cls := Value.type "tuple", data := Data.seq #[] }, toks := s.toks }) :=
  .of_wp fun prog w A R s h => by
    obtain ⟨hp, g, d, tk, os⟩ := s
    obtain ⟨hl, h⟩ := h
    have f1 := AutoSeq1.idx_int
    have c1 : (its.isEmpty || (0 : Int) == 1) = false := by rw [hi]; rfl
    wp_walk using wpAny_loadPart' hl
    repeat (first
      | (refine wpAny_ite_false (decide_eq_false (by rw [c1]; exact Bool.false_ne_true)) ?_; wp_walk using wpAny_loadPart' hl)
      | (refine wpAny_ite_true (by decide) ?_; wp_walk using wpAny_loadPart' hl)
      | (refine wpAny_ite_false (by decide) ?_; wp_walk using wpAny_loadPart' hl))
    exact ⟨_, rfl, h⟩
def rRepA (K : PySem.W.Frag) : R2 := fun x y H Q => ∃ (l : Addr) (k : Nat) (xs : List V), x = .ref l ∧ y = .int (k : Int) ∧ SqT K H l xs ∧ xs ≠ [] ∧ k ≤ 1000 ∧ xs.length ≤ 1000 ∧ (k = 1 → Q (.ref l) H) ∧ (k ≠ 1 → ∀ p, H p = none → Q (.ref p) (upd H p (.tup (List.replicate k xs).flatten)))
theorem op_repA {X : Cx} : OpR X (binaryOp .Mult) (rRepA X.K) := by
  intro pins s σ H x y v u Q I rx ry h
  obtain ⟨l, k, xs, rfl, rfl, hT, hne, hk, hx, q1, q2⟩ := h
  by_cases h2 : 2 ≤ k
  · exact op_repT pins s σ H _ _ v u Q I rx ry ⟨l, (k : Int), xs, rfl, rfl, hT, hne, by omega, by omega, hx, fun p np => q2 (by omega) p np⟩
  · cases rx
    obtain ⟨t, rfl⟩ := ry
    obtain ⟨its, rv, ⟨⟨cls, dd, data, sl⟩, ho, hc, n, hd⟩, hsz⟩ := I.tuple hT
    simp only at hc hd
    subst hc hd
    have hi : its.toArray.isEmpty = false := by
      cases its with
      | nil =>
        cases rv
        exact absurd rfl hne
      | cons a b => rfl
    have hT2 : s.TypeIs (.ref l) "tuple" := ⟨_, ho, rfl⟩
    have go : ∀ {Z : Value → Shared → Prop} {D : Value → Shared → Prop}, wpAny (model X.prog X.w) X.A (call (.builtin "tuple.__mul__") [.ref l, .int (k : Int) t]) Z D s → wpAny (model X.prog X.w) X.A (binaryOp .Mult (.ref l) (.int (k : Int) t)) Z D s := fun {Z D} z =>
      wpAny_binaryOp_repeat_ref (T := "tuple") (U := "int") (by decide) hT2 (fun z => typeIs_int z (k : Int) t) noFill_tuple_mul F.fills_int_mul F.slot_int_rmul repeat_tuple F.slot_int_index.lookup
        (call_meets F.slot_int_rmul (typeIs_int s (k : Int) t) F.entry_int_rmul (F.args_int_rmul_2 _ _) (int_rmul_tuple (k : Int) t l its.toArray n dd sl) ⟨ho, rfl, hT2, z⟩)
    refine go ?_
    rcases (show k = 0 ∨ k = 1 by omega) with rfl | rfl
    · refine call_meets F.slot_tuple_mul hT2 F.entry_tuple_mul (F.args_tuple_mul_2 _ _) (mul_nil l its.toArray n dd sl t hi) ⟨ho, ?_⟩
      exact ⟨.ref s.heap.objs.size, _, I.laid (t' := s.toks) (o := .tup []) (fun b ob q => Heap.get?_push_of_some _ q) (Nat.le_refl _) ⟨Nat.zero_le _, [], .nil, IsTup.new _ _⟩, rfl, q2 (by omega) _ (I.hok.fresh (Nat.le_refl _))⟩
    · exact call_meets F.slot_tuple_mul hT2 F.entry_tuple_mul (F.args_tuple_mul_2 _ _) (mul_one l its.toArray n dd sl t) ⟨ho, .ref l, H, I, rfl, q1 rfl⟩
end Px
/-! try with several clauses, each of which names the error by the same name. -/
namespace Px
open PySem PySem.Spec PyProof.Rows L2 Bx TL Dx Zx Ow
abbrev Cl := Value × (Addr → Value → Option Addr → TS)
/-- the ends of a suite behind which slot i is taken away -/
def gone (i : Nat) (D : Ends) : Ends := { nx := fun σ H => D.nx (σ.set i none) H, rt := D.rt, bk := fun σ H => D.bk (σ.set i none) H, ct := fun σ H => D.ct (σ.set i none) H }
def wAsM (K : PySem.W.Frag) (i : Nat) (W0 : WX) (D : Ends) : List Cl → WX
  | [] => W0
  | c :: r => fun cls d σ H => ∃ b, PySem.W.exmOne K cls c.1 = some b ∧ (b = true → ∀ a, H a = none → c.2 a cls d (gone i D) (σ.set i (some (.ref a))) H) ∧ (b = false → wAsM K i W0 D r cls d σ H)
inductive HdA (X : Cx) (n : Str) : List ExceptHandler → List Cl → Prop
  | nil : HdA X n [] []
  | cons {x : Str} {c : Cl} {b0 : Stmt} {bs : List Stmt} {p1 p2 : Pos} {hs : List ExceptHandler} {l : List Cl} (nm : Names X x c.1)
      (su : ∀ (a : Addr) (o : Obj) (cls : Value) (d : Option Addr) (pn : List (Addr × Obj)), Zc cls d o → (∃ vs, o.data = .fields vs) → PSs (X.suite a ((a, o) :: pn)) (b0 :: bs) (c.2 a cls d)) (r : HdA X n hs l) :
      HdA X n (.ExceptHandler (some (.Name x p1)) (some n) (b0 :: bs) p2 :: hs) (c :: l)
section
variable {X : Cx} {n : Str} {i : Nat} {body : List Stmt} {h0 : ExceptHandler} {hs : List ExceptHandler} {l : List Cl} {pos : Pos} {tb : WX → TS} {W0 : WX}
theorem ps_tryA (hst : X.stack = X.env :: X.outer) (hfr : X.env.frame = some X.env.locals) (nd : X.N.Nodup) (hi : X.N[i]? = some n) (loc : X.env.kindOf n = some .local) (tk : Takes X W0)
    (hb : ∀ (W : WX) (pn : List (Addr × Obj)) (xe : Value → Shared → Prop), Takes (X.tr pn xe) W → PassesOwn (model X.prog X.w) X.A X.env xe → PSs (X.tr pn xe) body (tb W)) (hh : HdA X n (h0 :: hs) l) :
    PS X (.Try body (h0 :: hs) [] [] pos) (fun D σ H => tb (wAsM X.K i W0 D l) D σ H) := by
  refine ⟨fun pins s σ H D I h => wpAny_Try_except ?_⟩
  have ok := I.ok
  have fr2 : X.A.frames = some (X.env :: X.outer) := by rw [ok.frames, hst]
  refine wpAny_mono ((hb (wAsM X.K i W0 D l) (X.pn ++ pins) (fun e t1 => wpAny (model X.prog X.w) X.A (noteFrame e X.env) (fun _ t2 => wpAny (model X.prog X.w) X.A (setFlight e none) (fun _ t3 => wpAny (model X.prog X.w) X.A (handleBy e X.env (h0 :: hs)) (SP X pins D) X.xe t3) X.xe t2) X.xe t1)
    (fun er s' got => ?_) PassesOwn.looking).run [] s σ H D (I.toTry _) h) (fun fl s1 hsp => ?_) (fun er s1 he => he)
  · obtain ⟨a, B, sI, pins2, τ, G, cls, d, rfl, J0, nb, up, sky, na, os, ag, wish⟩ := got
    have J : Inv X pins τ G sI := J0.ofTry ok
    have sk2 : Sky B (X.env :: X.outer) a (Zc cls d) X.env.locals s'.heap := by rw [← hst]; exact sky
    show wpAny (model X.prog X.w) X.A (noteFrame (.ref a) X.env) _ _ _
    refine Sky.land Zc.steady fr2 hfr sk2 fun h3 fl3 up3 => ?_
    have J3 : Inv X pins τ G { s' with heap := h3 } := J.landed nb fl3.1 (up.trans up3) os ag
    obtain ⟨o3, v3, ho3, hz3, hd3⟩ := fl3.there
    have out : a ∉ frs (X.env :: X.outer) := fun hm => by
      obtain ⟨_, o2, ho2, no⟩ := fl3.2.2.1.mem hm
      rw [ho3] at ho2
      cases ho2
      exact no _ hd3
    have nL : a ≠ X.env.locals := fun z => out (List.mem_filterMap.mpr ⟨X.env, List.mem_cons_self, hfr.trans (congrArg some z.symm)⟩)
    have nF : a ∉ X.fs := fun hm => by
      obtain ⟨e, he, q⟩ := List.mem_filterMap.mp hm
      exact out (List.mem_filterMap.mpr ⟨e, List.mem_cons_of_mem _ he, q⟩)
    have S3 := J3.suite ho3 hd3 na nL nF
    have go : ∀ {hs2 : List ExceptHandler} {l2 : List Cl}, HdA X n hs2 l2 → wAsM X.K i W0 D l2 cls d τ G → wpAny (model X.prog X.w) X.A (handleBy (.ref a) X.env hs2) (SP X pins D) X.xe { s' with heap := h3 } := by
      intro hs2 l2 hk
      induction hk with
      | nil =>
        intro wish
        refine wpAny_handleBy_nil ?_
        obtain ⟨_, _, _, o4, v4, T, _, _, ho4, _, hd4, hT, _⟩ := id fl3
        unfold PySem.passOn
        refine wpAny_bind (wpAny_field ho4 hd4 hT ?_)
        rw [if_neg (show ¬ ((Value.ref T == Value.none) = true) from Bool.false_ne_true)]
        have last : wpAny (model X.prog X.w) X.A (setFlight (.ref a) X.env.frame) (fun _ t => wpAny (model X.prog X.w) X.A (throw (.ref a) : Sem Flow) (SP X pins D) X.xe t) X.xe { s' with heap := h3 } := by
          rw [hfr]
          refine HandSPX.setFlight_upZ fl3 fun h4 hh4 up4 => wpAny_throw (tk _ _ ⟨a, B, sI, pins, τ, G, cls, d, rfl, J, nb, (up.trans up3).trans up4, .inr (.inr ?_), na, os, ag, wish⟩)
          rw [hst]
          exact hh4
        first
          | exact wpAny_bind (wpAny_pure (wpAny_bind last))
          | exact wpAny_bind last
      | @cons x c b0 bs p1 p2 hs3 l3 nm su r ih =>
        intro wish
        obtain ⟨b, eb, yes, no⟩ := wish
        refine wpAny_handleBy_cons (codeAny_handlers_test ?_) (by intro q; cases q)
        have LT : PySem.W.Looks (model X.prog X.w) h3 (typeOf (.ref a)) cls := fun A Q E t k q => wpAny_typeOf_ref (k _ _ ho3) (by rw [hz3.1]; exact q)
        have LM := PySem.W.exm_one (M := model X.prog X.w) J3.kIn LT eb
        have look : ∀ {Q : Value → Shared → Prop} {E : Value → Shared → Prop}, Q c.1 { s' with heap := h3 } → wpAny (model X.prog X.w) (X.A.mark (some (.ref a))) (eval (.Name x p1) X.env) Q E { s' with heap := h3 } := fun {Q E} q => by
          obtain ⟨hg, hdb, hm | ⟨hm, hv, hnn⟩⟩ := nm
          · exact ld_glob (X := X.suite a ((a, o3) :: (X.pn ++ pins))) S3 hg hm q hdb
          · exact ld_blt (X := X.suite a ((a, o3) :: (X.pn ++ pins))) S3 hg hm hv q hnn hdb
        refine look (LM.here ?_)
        cases b with
        | false =>
          show wpAny _ X.A (handleBy (.ref a) X.env hs3) _ _ _
          exact ih (no rfl)
        | true =>
          refine codeAny_handlers_suite_as (HandSPX.lands_againZ fl3 fun h4 fl4 up4 => ?_)
          have J4 : Inv X pins τ G { s' with heap := h4 } := J.landed nb fl4.1 ((up.trans up3).trans up4) os ag
          obtain ⟨o4, v4, ho4, hz4, hd4⟩ := fl4.there
          refine store_ok (X := X.suite a ((a, o4) :: (X.pn ++ pins))) (v := .ref a) (J4.suite ho4 hd4 na nL nF) nd hi (.inl loc) rfl (fun s5 S5 => ?_) (.inr loc)
          refine wpAny_mono ((su a o4 cls d (X.pn ++ pins) hz4 ⟨_, hd4⟩).run [] s5 _ G _ S5 (yes rfl a na)) (fun fl s6 hsp => ?_) (fun _ _ z => False.elim z)
          have out6 : ∀ {ρ : L2.St} {H6 : Hp} {Q : Shared → Prop}, Inv (X.suite a ((a, o4) :: (X.pn ++ pins))) [] ρ H6 s6 → (∀ s7, Inv X pins (ρ.set i none) H6 s7 → Q s7) → wpAny (model X.prog X.w) X.A (do bindName X.env n .none; unbindBehindTheSuite X.env n p2) (fun _ s7 => Q s7) X.xe s6 :=
            fun S6 hq => gone_ok (S6.unsuite ok) nd hi loc hq
          match fl, hsp with
          | .next, ⟨ρ, H6, S6, q⟩ => exact out6 S6 fun s7 J7 => ⟨_, _, J7, q⟩
          | .brk, ⟨ρ, H6, S6, q⟩ => exact out6 S6 fun s7 J7 => ⟨_, _, J7, q⟩
          | .cont, ⟨ρ, H6, S6, q⟩ => exact out6 S6 fun s7 J7 => ⟨_, _, J7, q⟩
          | .ret u, ⟨v6, ρ, H6, S6, r6, q⟩ => exact out6 S6 fun s7 J7 => ⟨_, _, _, J7, r6, q⟩
    exact go hh wish
  · match fl, hsp with
    | .next, ⟨ρ, G, J, q⟩ => exact wpAny_execs_nil ⟨ρ, G, J.ofTry ok, q⟩
    | .brk, ⟨ρ, G, J, q⟩ => exact ⟨ρ, G, J.ofTry ok, q⟩
    | .cont, ⟨ρ, G, J, q⟩ => exact ⟨ρ, G, J.ofTry ok, q⟩
    | .ret u, ⟨v, ρ, G, J, rv, q⟩ => exact ⟨v, ρ, G, J.ofTry ok, rv, q⟩
end
end Px
/-! list(o), o of an own class with `__iter__` over a tuple and `__len__`. -/
namespace Px
open PySem PySem.Spec PyProof.Rows L2 Bx TL Dx Zx Ow
section
variable {X : Cx} {pins : List (Addr × Obj)} {σ : L2.St} {H : Hp} {s : Shared} {C p dx : Addr} {fs : List (Str × V)} {k : Nat} {ps : List Str} {sp : Sp} {A1 : Around} {E1 : Value → Shared → Prop}
theorem len_at {Q : Value → Shared → Prop} (sb : Sub X (k + 1) A1) (c : OwM X.prog X.w X.K X.mg X.base CX0 C "__len__" k ps sp) (I : Inv X pins σ H s) (ha : H p = some (.ins C dx fs)) (hsp : sp [.ref p] H (fun v G => G = H ∧ ∃ n : Nat, v = .int (n : Int) ∧ n ≤ 1000) E0)
    (q : ∀ (n : Nat) t s', n ≤ 1000 → Inv X pins σ H s' → Q (.int (n : Int) t) s') : wpAny (model X.prog X.w) A1 (call (.builtin "len") [.ref p]) Q E1 s := by
  obtain ⟨f, fd, ok, hs, hf, _, hb⟩ := c.ex
  obtain ⟨od, J⟩ := inst_of I ha
  obtain ⟨m, hF⟩ := I.fr
  refine PySem.W.len_K hF I.ok.mod.kin J hs hf ?_
  refine wpAny_mono (call_at sb.in1 ok hb I (vs := [.ref p]) (.cons rfl .nil) hsp (fun e s' z => z.elim)) (fun u s' hu => ?_) (fun _ _ z => z)
  obtain ⟨v, G, I', rv, rfl, n, rfl, hn⟩ := hu
  obtain ⟨t, rfl⟩ := rv
  exact ⟨⟨by omega, by omega⟩, q n _ _ hn (I'.tok _)⟩
theorem hint_own {Q : Bool → Shared → Prop} (sb : Sub X (k + 1) A1) (c : OwM X.prog X.w X.K X.mg X.base CX0 C "__len__" k ps sp) (I : Inv X pins σ H s) (ha : H p = some (.ins C dx fs)) (hsp : sp [.ref p] H (fun v G => G = H ∧ ∃ n : Nat, v = .int (n : Int) ∧ n ≤ 1000) E0)
    (q : ∀ b s', Inv X pins σ H s' → Q b s') : wpAny (model X.prog X.w) A1 (Builtin.List.listLengthHint (.ref p)) Q E1 s := by
  obtain ⟨f, fd, ok, hs, hf, _, hb⟩ := id c.ex
  obtain ⟨od, J⟩ := inst_of I ha
  unfold Builtin.List.listLengthHint
  refine wpAny_bind (wpAny_bind (J.type.here ((PySem.W.looks_findIn I.kIn hs).here ?_)))
  refine PySem.W.KFB.if_not rfl ?_
  show wpAny _ _ (rule _ >>= _) _ _ _
  refine wpAny_bind (wpAny_rule ?_)
  refine wpAny_bind (wpAny_attempt (len_at sb c I ha hsp fun n t s' hn I' => ?_))
  show wpAny _ _ (asInt? (Value.int (n : Int) t) >>= _) _ _ _
  refine wpAny_bind (wpAny_pure ?_)
  refine PySem.W.KFB.if_not ?_ (wpAny_pure (q _ s' I'))
  show decide ((n : Int).toNat > sizeLine) = false
  rw [sizeLine_eq]
  exact decide_eq_false (by omega)
/-- the iterator of o, where `__iter__` gives iter(self.f) -/
theorem iter_at {f : Str} {t : Addr} {zs : List V} {Q : Value → Shared → Prop} (sb : Sub X k A1) (c : ItM X.prog X.w X.K X.mg X.base C f k) (I : Inv X pins σ H s) (ha : H p = some (.ins C dx fs)) (hl : fs.lookup f = some (.ref t)) (hz : SqT X.K H t zs)
    (q : ∀ it s', Inv X pins σ H s' → s'.heap.IsTupleIter it t 0 → FpOk X pins H it → Q (.ref it) s') : wpAny (model X.prog X.w) A1 (pyIter (.ref p)) Q E1 s := by
  obtain ⟨fi, hfi, hf, go⟩ := c.ex
  obtain ⟨od, J⟩ := inst_of I ha
  obtain ⟨m, hF⟩ := I.fr
  refine PySem.W.owit_iter hF I.ok.mod.kin J hfi hf ?_
  have z0 := I.env0
  have e0 : Env0 X.prog X.w X.K X.mg X.base A1 X.stack s H := ⟨by rw [sb.fr]; exact z0.frames, z0.mod, z0.bs, z0.bsz, z0.funs, z0.frf, z0.hok, z0.bare⟩
  refine wpAny_call (codeAny_mono (go A1 X.stack s H E0 p dx t fs zs sb.room e0 ha hl hz) fun res s' back => ?_)
  match res, back with
  | .error e, back => exact back.elim
  | .ok .next, back => exact back.elim
  | .ok .brk, back => exact back.elim
  | .ok .cont, back => exact back.elim
  | .ok (.ret u), back =>
    obtain ⟨v, G, I2, rv, it, rfl, n1, hy, rfl⟩ := I.after back
    cases rv
    have e2 : upd H it (TiO t it) it = some (TiO t it) := upd_same
    have hit : s'.heap.IsTupleIter it t 0 := by
      have : ObjOk X.prog X.w (upd H it (TiO t it)) s'.heap it (.ext fun h => h.IsTupleIter it t 0) := I2.hok it _ e2
      exact this.1
    show wpAny _ _ (specialOf (.ref it) "__next__") _ _ _
    refine wpAny_specialOf (name := Str.ofString "__next__") hit.typeIs PySem.F.slot_tuple_iterator_next.lookup ?_
    have I3 := ItX.inv_drop I2 e2
    have fp := ItX.inv_fp I2 e2 (Nat.le_trans I.sz hy)
    rw [ItX.dropH_upd n1] at I3 fp
    exact q it s' I3 hit fp
theorem ext_loop {L it t : Addr} {zs : List V} {Rs : Result → Shared → Prop} (hc : X.calm = true) (hL : H L = some (.lst [])) (hz : SqT X.K H t zs) (hzl : zs.length ≤ 1000) (fp : FpOk X pins H it)
    (done : ∀ s', Inv X pins σ (upd H L (.lst zs)) s' → Rs (.ok (.ret .none)) s') :
    ∀ (m i : Nat) (s : Shared), zs.length - i = m → i ≤ zs.length → Inv X pins σ (upd H L (.lst (zs.take i))) s → s.heap.IsTupleIter it t i → codeAny (model X.prog X.w) X.A.in1 (.builtin "list.extend.loop" ⟨[.ref L, .ref it, .none], []⟩) Rs s := by
  have hzi : ∀ ys, SqT X.K (upd H L (.lst ys)) t zs := fun ys => by
    rcases hz with (h | ⟨u, h⟩) | h
    · exact .inl (.inl (by rw [upd_ne fun z => by rw [z, hL] at h; cases h]; exact h))
    · exact .inl (.inr ⟨u, by rw [upd_ne fun z => by rw [z, hL] at h; cases h]; exact h⟩)
    · exact .inr h
  have hit : it ≠ L := fun z => by
    have := fp.1
    rw [z, hL] at this
    cases this
  have fpi : ∀ ys, FpOk X pins (upd H L (.lst ys)) it := fun ys => ⟨by rw [upd_ne hit]; exact fp.1, fp.2⟩
  intro m
  induction m with
  | zero =>
    intro i s hm hi I st
    have e : i = zs.length := by omega
    subst e
    obtain ⟨its, rv, pt, _⟩ := I.tuple (hzi _)
    obtain ⟨f0, f1, f2, f3, f4, f5⟩ := fpi (zs.take zs.length)
    have hl := rv.length
    refine codeAny_builtin PySem.F.entry_extend_loop ?_
    rw [Around.under_plainId PySem.F.plain_extend_loop _]
    show wpAny _ X.A.in1.in1 (pyNext (.ref it) >>= _) _ _ s
    refine wpAny_bind (wpAny_pyNext_tuple_end (I.ok.hd hc) st (show s.heap.IsTuple t its.toArray from pt) (by simp; omega) fun h' eb => ?_)
    have I1 : Inv X pins σ (upd H L (.lst (zs.take zs.length))) { s with heap := h' } := I.turned (t' := s.toks) (fun b o hb e => eb b o hb e) f0 f1 f3 f4 f5
    rw [List.take_length] at I1
    exact wpAny_pure (done _ I1)
  | succ m ih =>
    intro i s hm hi I st
    have hlt : i < zs.length := by omega
    obtain ⟨its, rv, pt, _⟩ := I.tuple (hzi _)
    obtain ⟨u, hu, ru⟩ := rv.get (List.getElem?_eq_getElem hlt)
    obtain ⟨f0, f1, f2, f3, f4, f5⟩ := fpi (zs.take i)
    refine codeAny_builtin PySem.F.entry_extend_loop ?_
    rw [Around.under_plainId PySem.F.plain_extend_loop _]
    show wpAny _ X.A.in1.in1 (pyNext (.ref it) >>= _) _ _ s
    refine wpAny_bind (wpAny_pyNext_tuple_item st (show s.heap.IsTuple t its.toArray from pt) (x := u) (by simpa using hu) fun h' st' sb => ?_)
    have I1 : Inv X pins σ (upd H L (.lst (zs.take i))) { s with heap := h' } := I.turned (t' := s.toks) (fun b o hb e => (sb.2 b hb).trans e) f0 f1 f3 f4 f5
    obtain ⟨z, js, c, rj, hjl, ej⟩ := I1.lstM upd_same
    have tl : (zs.take i).length = i := by rw [List.length_take]; omega
    have jl : js.length = i := by rw [← rj.length, tl]
    show wpAny _ X.A.in1.in1 (updateSeq L (·.push u) >>= _) _ _ _
    have I2 := I1.lset (f := (·.push u)) (its := js) (its' := js ++ [u]) (ys := zs.take (i + 1)) (t' := s.toks) upd_same ej (by simp) (by rw [List.take_add_one, List.getElem?_eq_getElem hlt]; exact rj.append (.cons ru .nil)) (by rw [List.length_take, sizeLine_eq]; omega)
    rw [upd_upd] at I2
    refine wpAny_bind (wpAny_updateSeq ej rfl (wpAny_pure ⟨plainId_quiet PySem.F.plain_extend_loop _, ih (i + 1) _ (by omega) hlt I2 ?_⟩) (by rw [List.size_toArray, jl, sizeLine_eq]; omega) (by show (js.toArray.push u).size ≤ sizeLine + 1; rw [Array.size_push, List.size_toArray, jl, sizeLine_eq]; omega))
    exact st'.at fun o e => (Heap.get?_update_other _ _ (Ne.symm hit)).trans e
def rListO (K : PySem.W.Frag) (C : Addr) (f : Str) (sp : Sp) : List V → Hp → VK → Prop := fun xs H Q => ∃ (p dx t : Addr) (fs : List (Str × V)) (zs : List V), xs = [.ref p] ∧ H p = some (.ins C dx fs) ∧ fs.lookup f = some (.ref t) ∧ SqT K H t zs ∧ zs.length ≤ 1000 ∧
  (∀ G, (∀ b o, H b = some o → G b = some o) → sp [.ref p] G (fun v G' => G' = G ∧ ∃ n : Nat, v = .int (n : Int) ∧ n ≤ 1000) E0) ∧ ∀ q, H q = none → Q (.ref q) (upd H q (.lst zs))
theorem call_listO {f : Str} (hc : X.calm = true) (ci : ItM X.prog X.w X.K X.mg X.base C f k) (cl : OwM X.prog X.w X.K X.mg X.base CX0 C "__len__" k ps sp) (hr : Room (k + 3) X.A) : CallR X (.type "list") (rListO X.K C f sp) := by
  intro pins s σ H xs us Q I rv h
  obtain ⟨p, dx, t, fs, zs, rfl, hp, hl, hz, hzl, hsp, q⟩ := h
  obtain ⟨u, rfl, ru⟩ := rv.one
  cases ru
  have sb : Sub X (k + 1) X.A.in1.in1 := Sub.in1 (Sub.in1 (sub_self hr))
  refine callType_codes (Q₁ := fun obj s1 => obj = .ref s.heap.objs.size ∧ s1 = { s with heap := s.heap.push { cls := .type "list", data := .seq #[] } }) PySem.F.called_list (PySem.F.typeCall_list_1 _) PySem.F.entry_list_init (code_list_new _ ⟨rfl, rfl⟩) fun obj s1 h1 => ?_
  obtain ⟨rfl, rfl⟩ := h1
  have hS : (s.heap.push { cls := .type "list", data := .seq #[] }).get? s.heap.objs.size = some { cls := .type "list", data := .seq #[] } := Heap.get?_push_size _ rfl
  refine ⟨⟨_, hS, rfl⟩, PySem.F.args_list_init_2 _ _, ?_⟩
  have fr : H s.heap.objs.size = none := I.hok.fresh (Nat.le_refl _)
  have I1 : Inv X pins σ (upd H s.heap.objs.size (.lst [])) { s with heap := s.heap.push { cls := .type "list", data := .seq #[] } } := I.lnew (its := []) (t' := s.toks) .nil (Nat.zero_le _)
  have q2 := q _ fr
  have sm : Same H (upd H s.heap.objs.size (.lst [])) := same_new fr
  generalize hLd : s.heap.objs.size = L at hS fr I1 q2 sm ⊢
  show wpAny _ _ (do let old ← Builtin.List.listItems (.ref L); Builtin.List.listUpdate (.ref L) (fun _ => #[]); letGo old.toList.reverse; Builtin.List.listExtendWith (.ref L) (.ref p) .none) _ _ _
  refine wpAny_bind ?_
  unfold Builtin.List.listItems
  refine wpAny_bind (wpAny_seqItems hS rfl (wpAny_pure ?_))
  show wpAny _ _ (updateSeq L (fun _ => #[]) >>= fun _ => letGo (#[] : Array Value).toList.reverse >>= fun _ => Builtin.List.listExtendWith (.ref L) (.ref p) .none) _ _ _
  refine wpAny_bind (wpAny_updateSeq hS rfl ?_)
  have I2 := I1.lset (f := fun _ => #[]) (its := []) (its' := []) (ys := []) (t' := s.toks) upd_same hS rfl .nil (Nat.zero_le _)
  rw [upd_upd] at I2
  refine wpAny_bind (wpAny_letGo ?_)
  have hp2 := sm _ _ hp
  have hz2 := Bx.Same.tup sm hz
  have hsp2 := hsp _ sm
  have hL2 : upd H L (.lst []) L = some (.lst []) := upd_same
  have hne : L ≠ p := fun z => by rw [← z, fr] at hp; cases hp
  have fin : ∀ s', Inv X pins σ (upd (upd H L (.lst [])) L (.lst zs)) s' → EP X pins σ Q (.ref L) s' := fun s' I' => by
    rw [upd_upd] at I'
    exact ⟨.ref L, _, I', rfl, q2⟩
  clear q2 q hsp I1 I hS
  obtain ⟨mA, J, _⟩ := ins_get I2.hok hp2
  obtain ⟨od, J, _⟩ := J.look
  unfold Builtin.List.listExtendWith
  refine wpAny_bind (J.type.here ?_)
  have e1 : Builtin.List.listSameRef (.ref L) (.ref p) = false := by simp [Builtin.List.listSameRef, hne]
  have e2 : (Value.ref C == Value.type "list") = false := rfl
  have e3 : (Value.ref C == Value.type "tuple") = false := rfl
  simp only [e1, e2, e3, Bool.or_false, Bool.false_eq_true, if_false]
  refine wpAny_bind (iter_at (sb.mono (Nat.le_succ _)) ci I2 hp2 hl hz2 fun it s2 I3 hit fp => ?_)
  obtain ⟨oi, hoi, hci, hdi⟩ := id hit
  have Ip := I3.pinned (fp := [it]) (fun b hb => by rw [List.mem_singleton.mp hb]; exact fp) (fun b hb => by rw [List.mem_singleton.mp hb]; exact ⟨oi, hoi, fun v z => by rw [hdi] at z; cases z⟩)
  refine wpAny_bind (wpAny_holding (hint_own sb cl Ip hp2 hsp2 fun b s3 I4 => ?_))
  have hit3 : s3.heap.IsTupleIter it t 0 := hit.at fun o e => (I4.pin (it, o) (List.mem_append_right _ (List.mem_append_right _ (mem_pinsAt List.mem_cons_self e)))).1
  have I5 := I4.unpinned
  have run : ∀ s5, Inv X pins σ (upd (upd H L (.lst [])) L (.lst (zs.take 0))) s5 → s5.heap.IsTupleIter it t 0 → codeAny (model X.prog X.w) X.A.in1 (.builtin "list.extend.loop" ⟨[.ref L, .ref it, .none], []⟩) (wants (fun r s6 => r = .none ∧ EP X pins σ Q (.ref L) s6) X.xe) s5 := fun s5 J5 st5 =>
    ext_loop hc hL2 hz2 hzl fp (fun s6 J6 => ⟨rfl, fin s6 J6⟩) _ 0 s5 rfl (Nat.zero_le _) J5 st5
  have hH : upd (upd H L (.lst [])) L (.lst (zs.take 0)) = upd H L (.lst []) := upd_upd
  rw [hH] at run
  have hneL : it ≠ L := fun z => by
    have := fp.1
    rw [z, hL2] at this
    cases this
  refine wpAny_ite_split (fun _ => wpAny_bind (wpAny_rule (wpAny_bind ?_))) (fun _ => wpAny_pure ⟨plainId_quiet PySem.F.plain_extend_loop _, run s3 I5 hit3⟩)
  obtain ⟨z1, j1, c1, r1, l1, w1⟩ := I5.lstM hL2
  cases r1
  show wpAny _ _ (updateSeq L (·.push .none) >>= fun _ => updateSeq L (·.pop)) _ _ s3
  have K1 := I5.lset (f := (·.push Value.none)) (its' := [Value.none]) (ys := [.non]) (t' := s3.toks) hL2 w1 (by simp) (.cons rfl .nil) (by rw [sizeLine_eq]; decide)
  refine wpAny_bind (wpAny_updateSeq w1 rfl ?_)
  obtain ⟨z2, j2, c2, r2, l2, w2⟩ := K1.lstM upd_same
  obtain ⟨u2, rfl, _⟩ := r2.one
  have K2 := K1.lset (f := (·.pop)) (its := [u2]) (its' := []) (ys := []) (t' := s3.toks) upd_same w2 rfl .nil (Nat.zero_le _)
  rw [upd_upd, upd_upd] at K2
  refine wpAny_updateSeq w2 rfl (wpAny_pure ⟨plainId_quiet PySem.F.plain_extend_loop _, run _ K2 ?_⟩) (by show 1 ≤ sizeLine; rw [sizeLine_eq]; decide) (Nat.zero_le _)
  exact hit3.at fun o e => (Heap.get?_update_other _ _ (Ne.symm hneL)).trans ((Heap.get?_update_other _ _ (Ne.symm hneL)).trans e)
end
end Px
/-! o.m(..) where a method that may raise does not; C.m(..) of a classmethod. -/
namespace Px
open PySem PySem.Spec PyProof.Rows L2 Bx TL Dx Zx Ow
structure CmC (P : Program) (w : World) (K : PySem.W.Frag) (mg : Str → Option Value) (base : Heap) (C : Addr) (m : Str) (k : Nat) (sp : Sp) : Prop where
  ex : ∃ (mc : Value) (p g : Addr), ClX.CRead K C mc ∧ ClX.CMet K C mc m p g ∧ FnR P w K mg base CX0 k g sp
section
variable {X : Cx} {k : Nat} {ps : List Str} {sp : Sp} {o e : Expr} {es : List Expr} {t : TA} {apos pos : Pos} {C : Addr} {m : Str} {to : TE} {pl : Sem Bool}
theorem pe_mthN (c : MthX X.prog X.w X.K X.mg X.base C m k ps sp) (hr : Room k X.A) (ho : PE X o to) (ha : PA X (e :: es) t)
    (hst : starEach (e :: es) X.env = (false, eval e X.env) :: starEach es X.env := by rfl) (hpl : (backTo pos (starEach es X.env)).any (·.1) = false := by rfl)
    (ht : eval (.Call (.Attribute o m apos) (e :: es) [] pos) X.env = (do
      let ov ← eval o X.env
      standAt apos.atName
      let (f, first) ← holding [ov] (getMethod ov m pl)
      callWith pos f first (backTo pos (starEach (e :: es) X.env)) (backToKw pos (keywordEach [] X.env))) := by rfl) : PE X (.Call (.Attribute o m apos) (e :: es) [] pos) (tMeth C m sp [] E0 to t) := by
  obtain ⟨f, fd, cl, mt, ok, b⟩ := c.ex
  exact pe_meth (E := E0) ho cl mt ok hr b .nil passN ha hst hpl ht
theorem pe_cme (c : CmC X.prog X.w X.K X.mg X.base C m k sp) (hr : Room k X.A) (ho : PE X o to) (ha : PA X (e :: es) t)
    (hst : starEach (e :: es) X.env = (false, eval e X.env) :: starEach es X.env := by rfl) (hpl : (backTo pos (starEach es X.env)).any (·.1) = false := by rfl)
    (ht : eval (.Call (.Attribute o m apos) (e :: es) [] pos) X.env = (do
      let ov ← eval o X.env
      standAt apos.atName
      let (f, first) ← holding [ov] (getMethod ov m pl)
      callWith pos f first (backTo pos (starEach (e :: es) X.env)) (backToKw pos (keywordEach [] X.env))) := by rfl) : PE X (.Call (.Attribute o m apos) (e :: es) [] pos) (ClX.tCMeth C sp E0 to t) := by
  obtain ⟨mc, p, g, r, cm, F⟩ := c.ex
  exact ClX.pe_cmeth ho r cm F hr L2.pass0 ha hst hpl ht
/-- a property by its promise -/
structure PropC (P : Program) (w : World) (K : PySem.W.Frag) (mg : Str → Option Value) (base : Heap) (C : Addr) (m : Str) (k : Nat) (sp : Sp) : Prop where
  cl : Cls K C
  ex : ∃ (p g : Addr) (fd : FuncData), PropOf K C m p g ∧ FnOk P w K mg base CX0 k g fd ["self"] sp ∧ Binds K fd ["self"] []
theorem pe_propC {ta : TE} (c : PropC X.prog X.w X.K X.mg X.base C m k sp) (hr : Room (k + 1) X.A) (he : PE X e ta) (hab : attributeBase e m X.env (eval e X.env) = eval e X.env) : PE X (.Attribute e m pos) (tProp C sp [] E0 ta) := by
  obtain ⟨p, g, fd, hp, F, hb⟩ := c.ex
  exact pe_prop he c.cl hp F hr hb .nil L2.pass0 hab
end
end Px
/-! dicts whose keys are tuples: made by a comprehension. -/
namespace Dt
open PySem PySem.Spec PyProof.Rows L2 Bx TL Dx Zx
/-- the store of such a comprehension -/
theorem put_in {X : Cx} {pins : List (Addr × Obj)} {σ : L2.St} {H : Hp} {s : Shared} {E : Value → Shared → Prop} {D b : Addr} {kvs : List (List Key × V)} {k : List Key} {v : V} {r : Value} {Q : Unit → Shared → Prop} (hu : X.A.units < cLine) (J : Inv X pins σ H s) (hD : H D = some (.dT kvs)) (hl : kvs.length < sizeLine)
    (hb : H b = some (.tup (k.map kV))) (rv : RelV v r) (q : ∀ s', Inv X pins σ (upd H D (.dT (putK kvs k v))) s' → Q () s') : wpAny (model X.prog X.w) X.A (dictSet D (.ref b) r) Q E s := by
  obtain ⟨_, ns, xs, rel, dd⟩ := dt_of J.hok hD
  have small : xs.length ≤ sizeLine := by
    have := Paired.length rel
    omega
  have after : (putK kvs k v).length ≤ sizeLine := by
    have := length_putK kvs k v
    omega
  refine wpAny_dictSet_heap (hsz := small) hu (key_of J.hok hb) dd fun g dg sb => q _ ?_
  obtain ⟨ob, es, ep, ho, x2, x3, x4, _, x5⟩ := dg
  refine d_write J (by rw [hD]; exact True.intro) sb ⟨ob, ho⟩ ⟨after, ns, _, (rel.put k hb rv).keeps fun c ys e => ?_, ob, es, ep, ho, x2, x3, x4, x5⟩
  rw [upd_ne (ne_of e hD fun z => nomatch z)]
  exact e
end Dt
namespace Dt
open PySem PySem.Spec PyProof.Rows L2 Bx TL Dx Zx
section
variable {X : Cx}
/-- {k: v for target in iter if ..}, the keys tuples of ints and texts -/
def tDcT (wi : TI) (g : TG) (tt : TT) (tk tv : TE) (vs : List Nat) : TE := fun σ H Q => wi σ H fun J H1 => ∀ D, H1 D = none → ∃ W : Nat → Nat → Hp → Prop, (∃ m, W 0 m (upd H1 D (.dT []))) ∧ ∀ i m H, W i m H →
  (J.stop i H ∧ Q (.ref D) H) ∨ (J.go i H ∧ ∃ Nx : Hp → Prop, (∀ H', Nx H' → ∃ m', m' < m ∧ W (i + 1) m' H') ∧ ∀ x H', J.yld i H x H' → g x (wipe σ vs) H' fun σ2 H2 => wipe σ2 vs = wipe σ vs ∧ tt σ2 H2 fun b H3 =>
    if b = true then tk σ2 H3 fun y H4 => tv σ2 H4 fun z H5 => ∃ a kvs k, y = .ref a ∧ H5 a = some (.tup (k.map kV)) ∧ H5 D = some (.dT kvs) ∧ kvs.length < sizeLine ∧ Nx (upd H5 D (.dT (putK kvs k z))) else Nx H3)
end
end Dt
namespace Dt
open PySem PySem.Spec PyProof.Rows L2 Bx TL Dx Zx
section
variable {X : Cx}
/-- what holds between the turns: the block's slots are bare, the iterator stands at i, the measure is n -/
def Between (Y : Cx) (fp : List Addr) (tn : Nat → Heap → Prop) (W : Nat → Nat → Hp → Prop) (τ : L2.St) (n : Nat) (z : Shared) : Prop := ∃ i G, Inv Y [] τ G z ∧ tn i z.heap ∧ (∀ b ∈ fp, G b = none) ∧ W i n G
theorem dct_core {pins : List (Addr × Obj)} {s : Shared} {σ : L2.St} {H : Hp} {Q : VK} {kx vx tg iter : Expr} {ifs : List Expr} {scope : Scope} {own : List (Str × Nat)} {pos pos' : Pos} {wi : TI} {g : TG} {tt : TT} {tk tv : TE} {use : Option (Value → Sem Unit)} {Qf : Value → Shared → Prop}
    (hu : X.A.units < cLine) (calm : X.calm = true) (nod : X.N.Nodup) (J : Inv X pins σ H s) (walk : PI X tg iter wi) (ok : BlkOk X.N X.env.scope scope own)
    (pg : ∀ (z : Shared) (G : Hp) (C : Addr) (cl : List (Str × Addr)) (fp : List Addr), PG (X.blk z G scope (compEnvC scope cl C X.env) fp) tg g) (pt : ∀ (z : Shared) (G : Hp) (C : Addr) (cl : List (Str × Addr)) (fp : List Addr), PTs (X.blk z G scope (compEnvC scope cl C X.env) fp) ifs tt)
    (pk : ∀ (z : Shared) (G : Hp) (C : Addr) (cl : List (Str × Addr)) (fp : List Addr), PE (X.blk z G scope (compEnvC scope cl C X.env) fp) kx tk) (pv : ∀ (z : Shared) (G : Hp) (C : Addr) (cl : List (Str × Addr)) (fp : List Addr), PE (X.blk z G scope (compEnvC scope cl C X.env) fp) vx tv)
    (fold : ∀ x, foldedSetIterable iter X.env x = pure x) (want : tDcT wi g tt tk tv (own.map (·.2)) σ H Q)
    (back : ∀ D C z m G, Inv X pins σ G z → Q (.ref D) G → z.heap.Ns C m → FpOk X pins G C → compPost (model X.prog X.w) X.A X.xe use Qf (.ref D) C (.ok .next) z) :
    wpAny (model X.prog X.w) X.A (comprehension (.DictComp kx vx [⟨tg, iter, ifs, 0⟩] scope pos) scope X.env pos' newDict false (eval iter X.env) use) Qf X.xe s := by
  have free : ∀ y ∈ scope.names, y.2 = .free → ∃ c, X.env.cells.lookup y.1 = some c := fun y m e => (ok.free y m e).elim (fun k => J.ok.has _ (.inl k)) fun k => J.ok.has _ (.inr k)
  have names : ∀ y ∈ scope.names, y.2 = .local → scope.names.lookup y.1 = some .local := fun y m e => by
    have := ok.uniq y m
    rw [e] at this
    exact this
  refine wpAny_comprehension_free (use := use) rfl fold (closure_ok free) ok.kind names (thn (walk.run pins s σ H _ J want) fun first z1 got => thn got fun itv z2 ready => ?_)
  obtain ⟨it, fp, tn, I0, G2, rfl, J2, T, at0, out2, q⟩ := ready
  refine wpAny_newObj_type (newEnv_comp ?_)
  have bare : G2 z2.heap.objs.size = none := J2.hok.fresh (Nat.le_refl _)
  obtain ⟨W, ⟨n0, start⟩, turn⟩ := q _ bare
  have lo : ∀ b ∈ fp, b < z2.heap.objs.size := fun b m => by
    obtain ⟨u, hu2, _⟩ := T.obj _ _ at0 b m
    exact Heap.lt_size hu2
  have J3 : Inv X pins σ (upd G2 z2.heap.objs.size (.dT [])) { z2 with heap := z2.heap.push { cls := .type "dict", data := .dict #[] } } :=
    J2.laid (t' := z2.toks) (fun b o e => Heap.get?_push_of_some _ e) (Nat.le_refl _) (dt_empty z2.heap J2.big)
  have out3 : ∀ b ∈ fp, FpOk X pins (upd G2 z2.heap.objs.size (.dT [])) b ∧ b < (z2.heap.push { cls := .type "dict", data := .dict #[] }).objs.size := fun b m => by
    have l := lo b m
    refine ⟨⟨?_, (out2 b m).2⟩, ?_⟩
    · rw [upd_ne (Nat.ne_of_lt l)]
      exact (out2 b m).1
    · rw [Heap.size_push]
      exact Nat.lt_succ_of_lt l
  have at3 : tn 0 (z2.heap.push { cls := .type "dict", data := .dict #[] }) := T.keep _ _ _ at0 fun b _ o e => Heap.get?_push_of_some _ e
  generalize hD : z2.heap.objs.size = D at *
  generalize hz3 : ({ z2 with heap := z2.heap.push { cls := .type "dict", data := .dict #[] } } : Shared) = z3 at *
  have e3 : z3.heap = z2.heap.push { cls := .type "dict", data := .dict #[] } := by rw [← hz3]
  rw [← e3] at out3 at3
  have J4 := block_start J3 ok nod out3
  have bare3 : ∀ b ∈ fp, (upd G2 D (.dT [])) b = none := fun b m => (out3 b m).1.1
  generalize upd G2 D (.dT []) = G3 at J3 J4 bare3 out3 start
  generalize hcl : cellsFrom (z3.heap.objs.size + 1) scope.names (cloFrom X.env.cells scope.names []) = cl at J4 ⊢
  generalize hC : z3.heap.objs.size = C at *
  have g1 := pg z3 G3 C cl fp
  have g2 := pt z3 G3 C cl fp
  have g3 := pk z3 G3 C cl fp
  have g4 := pv z3 G3 C cl fp
  show codeAny _ _ (.compStart (.DictComp kx vx [⟨tg, iter, ifs, 0⟩] scope pos) 0 (.ref it) (.ref D) (compEnvC scope cl C X.env)) (compPost (model X.prog X.w) X.A X.xe use Qf (.ref D) C) { z3 with heap := pushCells (z3.heap.push { cls := .type "dict", data := .dict #[] }) scope.names }
  have at4 : tn 0 (pushCells (z3.heap.push { cls := .type "dict", data := .dict #[] }) scope.names) := T.keep _ _ _ at3 fun b _ o e => pushCells_keeps _ _ _ _ (Heap.get?_push_of_some _ e)
  generalize hz4 : ({ z3 with heap := pushCells (z3.heap.push { cls := .type "dict", data := .dict #[] }) scope.names } : Shared) = z4 at J4 ⊢
  have at4' : tn 0 z4.heap := by
    rw [← hz4]
    exact at4
  have cloc : (compEnvC scope cl C X.env).locals = C := rfl
  generalize compEnvC scope cl C X.env = ce at J4 g1 g2 g3 g4 cloc ⊢
  have stays : ∀ {τ : L2.St} {G : Hp} {z : Shared}, Inv (X.blk z3 G3 scope ce fp) [] τ G z → (∀ b ∈ fp, G b = none) → ∀ b ∈ fp, FpOk (X.blk z3 G3 scope ce fp) [] G b := fun J' hn b m =>
    ⟨hn b m, (J'.ok.exf b m).1, J'.ok.exfs b m, .inl m, fun x c e => (J'.ok.exf b m).2 x c e, fun p hp => absurd (show p ∈ ([] : List (Addr × Obj)) ++ [] from hp) (by simp)⟩
  have loop : codeAny (model X.prog X.w) X.A (.compLoop (.DictComp kx vx [⟨tg, iter, ifs, 0⟩] scope pos) 0 (.ref it) (.ref D) ce) (compPost (model X.prog X.w) X.A X.xe use Qf (.ref D) C) z4 := by
    refine compLoop_anyD (fun n z => Between (X.blk z3 G3 scope ce fp) fp tn W (wipe σ (own.map (·.2))) n z) (fun n z5 h5 => ?_) n0 ⟨0, G3, J4, at4', bare3, start⟩
    obtain ⟨i, G5, J5, at5, bare5, w5⟩ := h5
    rcases turn i n G5 w5 with ⟨stop, fin⟩ | ⟨go, Nx, less, step⟩
    · have over := T.done (X.blk z3 G3 scope ce fp) rfl rfl rfl calm i [] z5 _ G5 (fun _ _ => False) J5 (stays J5 bare5) at5 stop
      refine thnF over fun r z6 ⟨none_, J6⟩ => ?_
      subst none_
      have home : Inv X pins σ G5 z6 := J3.call' (ch := fp) J6.os J6.base J6.hok J6.bare fun b m => ⟨(out3 b m).1.2.2.2.1, (out3 b m).1.2.1, (out3 b m).1.2.2.2.2.1, (out3 b m).1.2.2.2.2.2⟩
      have noC : G5 C = none := by
        have f : G5 ce.locals = none := J6.free
        rwa [cloc] at f
      obtain ⟨m, ns, _⟩ := J6.loc
      have ns2 : z6.heap.Ns ce.locals m := ns
      rw [cloc] at ns2
      exact back D C z6 m G5 home fin ns2 (J3.fpOk (Nat.le_of_eq hC) noC)
    · have one := T.item (X.blk z3 G3 scope ce fp) rfl rfl rfl calm i [] z5 _ G5 (fun _ _ => False) J5 (stays J5 bare5) at5 go
      refine thnF one fun r z6 ⟨u, some_, h6⟩ => ?_
      subst some_
      refine thnF h6 fun _ z7 ⟨x, G7, J7, rx, y7, at7, bare7⟩ => ?_
      have J7p := J7.pinned (stays J7 bare7) (T.obj _ _ at7)
      refine thnF (g1.run _ z7 _ G7 x u _ J7p rx (step x G7 y7)) fun _ z8 ⟨σ8, G8, J8, clean, q8⟩ => ?_
      refine thnF (g2.run _ z8 σ8 G8 _ J8 q8) fun b z9 ⟨G9, J9, q9⟩ => ?_
      have next : ∀ {z : Shared} {G : Hp}, Inv (X.blk z3 G3 scope ce fp) ([] ++ pinsAt fp z7.heap) σ8 G z → Nx G → ∃ m, m < n ∧ Between (X.blk z3 G3 scope ce fp) fp tn W (wipe σ (own.map (·.2))) m z := fun {z G} J' nx => by
        obtain ⟨m, lt, w'⟩ := less G nx
        have held : ∀ b ∈ fp, ∀ o, z7.heap.get? b = some o → z.heap.get? b = some o ∧ G b = none := fun b m o e =>
          have k := J'.pin (b, o) (List.mem_append_right _ (List.mem_append_right _ (mem_pinsAt m e)))
          ⟨k.1, k.2.1⟩
        have long : (wipe σ (own.map (·.2))).length = σ8.length := by rw [← clean, wipe_length]
        refine ⟨m, lt, i + 1, G, (J'.unpinned (pins := [])).weak long (fun j v e => ?_), T.keep _ _ _ at7 fun b m o e => (held b m o e).1, fun b m => ?_, w'⟩
        · rw [← clean] at e
          exact (wipe_some e).1
        · obtain ⟨o, e, _⟩ := T.obj _ _ at7 b m
          exact (held b m o e).2
      cases b with
      | false =>
        simp only [Bool.false_eq_true, if_false] at q9 ⊢
        exact next J9 q9
      | true =>
        simp only [if_true] at q9 ⊢
        refine thnF (g3.run _ z9 σ8 G9 _ J9 q9) fun kv z10 ⟨y, G10, J10, ry, q10⟩ => ?_
        refine thnF (g4.run _ z10 σ8 G10 _ J10 q10) fun vv z11 ⟨v, G11, J11, rv, a, kvs, k, ey, ha, hd, small, nx⟩ => ?_
        subst ey
        cases ry
        exact put_in (X := X.blk z3 G3 scope ce fp) hu J11 hd small ha rv fun z12 J12 => next J12 nx
  exact codeAny_compStart_dict loop (T.self X.A 0 _ _ _ at4' loop)
end
end Dt
namespace Dt
open PySem PySem.Spec PyProof.Rows L2 Bx TL Dx Zx
section
variable {X : Cx}
/-- name = {k: v for ..}, the keys tuples -/
theorem ps_setDcT {i : Nat} {y : Str} {py : Pos} {kx vx tg iter : Expr} {ifs : List Expr} {scope : Scope} {own : List (Str × Nat)} {pos spos : Pos} {wi : TI} {g : TG} {tt : TT} {tk tv : TE} (hu : X.A.units < cLine) (hc : X.calm = true) (hN : X.N.Nodup) (hy : X.N[i]? = some y) (hyl : X.env.scope.names.lookup y = some .local)
    (hsw : swapsWith (.DictComp kx vx [⟨tg, iter, ifs, 0⟩] scope pos) (some (.Name y py)) spos.line X.env = pure true) (hi : PI X tg iter wi) (ok : BlkOk X.N X.env.scope scope own)
    (hg : ∀ (s : Shared) (H : Hp) (C : Addr) (cl : List (Str × Addr)) (fp : List Addr), PG (X.blk s H scope (compEnvC scope cl C X.env) fp) tg g) (ht : ∀ (s : Shared) (H : Hp) (C : Addr) (cl : List (Str × Addr)) (fp : List Addr), PTs (X.blk s H scope (compEnvC scope cl C X.env) fp) ifs tt)
    (hk : ∀ (s : Shared) (H : Hp) (C : Addr) (cl : List (Str × Addr)) (fp : List Addr), PE (X.blk s H scope (compEnvC scope cl C X.env) fp) kx tk)
    (he : ∀ (s : Shared) (H : Hp) (C : Addr) (cl : List (Str × Addr)) (fp : List Addr), PE (X.blk s H scope (compEnvC scope cl C X.env) fp) vx tv) (hs : ∀ x, foldedSetIterable iter X.env x = pure x := by intro _; rfl) :
    PS X (.Assign [.Name y py] (.DictComp kx vx [⟨tg, iter, ifs, 0⟩] scope pos) spos) (tAsg (tDcT wi g tt tk tv (own.map (·.2))) (gName i)) := by
  refine ⟨fun pins s σ H D I h => ?_⟩
  rw [exec_Assign_Name_used _ _ _ _ hsw]
  refine wpAny_bind (wpAny_standAt (wpAny_bind ?_))
  show wpAny _ X.A (do let _ ← comprehension (.DictComp kx vx [⟨tg, iter, ifs, 0⟩] scope pos) scope X.env _ newDict false (eval iter X.env) (some (assign (.Name y py) X.env))) _ _ s
  have h : tDcT wi g tt tk tv (own.map (·.2)) σ H (fun x H1 => gName i x σ H1 D.nx) := h
  refine wpAny_bind (thn (dct_core (Qf := fun _ s' => SP X pins D .next s') hu hc hN I hi ok hg ht hk he hs h fun L C s' m H' I' q hn f => ?_) fun _ s' hq => wpAny_pure (wpAny_pure hq))
  show wpAny _ _ (assign (.Name y py) X.env (.ref L)) _ _ _
  refine wpAny_assign_Name (store_ok2 (v := V.ref L) I' hN hy (.inl hyl) rfl (fun s2 I2 ⟨a, sb, ha⟩ => ?_) (.inr hyl))
  obtain ⟨f0, f1, f2, f3, f4, f5⟩ := f
  have haC : C ≠ a := by
    rcases ha with z | z
    · rw [z]; exact f1
    · exact fun e => f4 y a z e.symm
  refine ⟨m, hn.sameBut sb haC, fun h3 sb3 => ?_⟩
  exact ⟨_, H', I2.turned (t' := s2.toks) (fun b o hb e => (sb3.2 b hb).trans e) f0 f1 f3 f4 f5, q⟩
end
/-- over a walk -/
theorem dct_it {J : It} {n : Nat} {G : Hp → Prop} {Y : Nat → Hp → V → Hp → Prop} (w : Walk J n G Y) {g : TG} {tt : TT} {tk tv : TE} {vs : List Nat} {σ : L2.St} {H1 : Hp} {D : Addr} {Qd : Hp → Prop} (Pv : Nat → Hp → Prop) (h0 : Pv 0 (upd H1 D (.dT []))) (hG : ∀ i H, i ≤ n → Pv i H → G H)
    (hs : ∀ i x H H', i < n → Pv i H → Y i H x H' → g x (wipe σ vs) H' fun σ2 H2 => wipe σ2 vs = wipe σ vs ∧ tt σ2 H2 fun b H3 =>
      if b = true then tk σ2 H3 fun y H4 => tv σ2 H4 fun z H5 => ∃ a kvs k, y = .ref a ∧ H5 a = some (.tup (k.map kV)) ∧ H5 D = some (.dT kvs) ∧ kvs.length < sizeLine ∧ Pv (i + 1) (upd H5 D (.dT (putK kvs k z))) else Pv (i + 1) H3) (hd : ∀ H, Pv n H → Qd H) :
    ∃ W : Nat → Nat → Hp → Prop, (∃ m, W 0 m (upd H1 D (.dT []))) ∧ ∀ i m H, W i m H →
      (J.stop i H ∧ Qd H) ∨ (J.go i H ∧ ∃ Nx : Hp → Prop, (∀ H', Nx H' → ∃ m', m' < m ∧ W (i + 1) m' H') ∧ ∀ x H', J.yld i H x H' → g x (wipe σ vs) H' fun σ2 H2 => wipe σ2 vs = wipe σ vs ∧ tt σ2 H2 fun b H3 =>
        if b = true then tk σ2 H3 fun y H4 => tv σ2 H4 fun z H5 => ∃ a kvs k, y = .ref a ∧ H5 a = some (.tup (k.map kV)) ∧ H5 D = some (.dT kvs) ∧ kvs.length < sizeLine ∧ Nx (upd H5 D (.dT (putK kvs k z))) else Nx H3) :=
  walk_any (B := fun (Nx : Hp → Prop) x H' => g x (wipe σ vs) H' fun σ2 H2 => wipe σ2 vs = wipe σ vs ∧ tt σ2 H2 fun b H3 =>
        if b = true then tk σ2 H3 fun y H4 => tv σ2 H4 fun z H5 => ∃ a kvs k, y = .ref a ∧ H5 a = some (.tup (k.map kV)) ∧ H5 D = some (.dT kvs) ∧ kvs.length < sizeLine ∧ Nx (upd H5 D (.dT (putK kvs k z))) else Nx H3) w Pv h0 hG hs hd
end Dt
namespace Dt
open PySem PySem.Spec PyProof.Rows L2
/-- e.f within a block: the written part is named -/
theorem pe_fldK {X : Cx} {K : PySem.W.Frag} {e : Expr} {f : Str} {pos : Pos} {ta : TE} (h : X.K = K) (he : PE X e ta) (hb : attributeBase e f X.env (eval e X.env) = eval e X.env) : PE X (.Attribute e f pos) (tFld K ta f) := by
  subst h
  exact pe_fld he hb
end Dt
/-! a comprehension within another one's block -/
namespace Nx
open PySem PySem.Spec PyProof.Rows L2
theorem rel_eq {scope : Scope} {env : Env} {sc : Scope} (h : env.scope = sc) : relabel scope env = relS scope sc := by
  subst h
  rfl
theorem blkOk_nest {N : List Str} {sc scope1 scope : Scope} {cl : List (Str × Addr)} {C : Addr} {env : Env} {own : List (Str × Nat)} (he : env.scope = sc) (h : blkC N (relS scope1 sc) scope own = true) : BlkOk N (compEnvC scope1 cl C env).scope scope own := by
  have e : (compEnvC scope1 cl C env).scope = relS scope1 sc := rel_eq he
  rw [e]
  exact blkOk_by h
/-- d.setdefault(t, v), t a tuple of ints and texts -/
def rSetdT : V → List V → Hp → VK → Prop := fun x vs H Q => ∃ (a b : Addr) (kvs : List (List Key × V)) (k : List Key) (v : V), x = .ref a ∧ vs = [.ref b, v] ∧ H a = some (.dT kvs) ∧ H b = some (.tup (k.map kV)) ∧ kvs.length < sizeLine ∧
  (∀ u, valV kvs k = some u → Q u H) ∧ (valV kvs k = none → Q v (upd H a (.dT (putK kvs k v))))
theorem mt_setdT {X : Cx} (hu : X.A.units + 1 < cLine) : MtR X "dict.setdefault" rSetdT := by
  intro pins s σ H x xs v us Q I rx rs q
  obtain ⟨a, b, kvs, k, y, rfl, rfl, ea, eb, hl, w1, w2⟩ := q
  cases rx
  cases rs with
  | cons r1 rs =>
    cases rs with
    | cons r2 rs =>
      cases rs
      cases r1
      obtain ⟨z, hd, xs0, rel, dd⟩ := dt_of I.hok ea
      have hz : xs0.length ≤ sizeLine := by rw [← Paired.length rel]; exact z
      have hl2 : (putK kvs k y).length ≤ sizeLine := by have := length_putK kvs k y; omega
      refine call_setdefault_heap (hsz := hz) (tupleKind_room_in1 hu) (key_of I.hok eb) hd dd (fun p hp => ?_) fun hn h' dd' hs => ?_
      · have rr := rel.val k
        rw [hp] at rr
        cases e : valV kvs k with
        | none =>
          rw [e] at rr
          have := rr.isSome_eq
          cases this
        | some u =>
          rw [e] at rr
          exact ⟨u, H, I.tok _, rr, w1 u e⟩
      · have rr := rel.val k
        rw [hn] at rr
        have e : valV kvs k = none := by
          cases e : valV kvs k with
          | none => rfl
          | some u =>
            rw [e] at rr
            have := rr.isSome_eq
            cases this
        obtain ⟨q, es, ep, hq, h2, h3, h4, _, h5⟩ := dd'
        refine ⟨y, upd H a (.dT (putK kvs k y)), d_write I (by rw [ea]; exact True.intro) hs ⟨q, hq⟩ ⟨hl2, hd, _, (rel.put k eb r2).keeps fun c ys ec => ?_, q, es, ep, hq, h2, h3, h4, h5⟩, r2, w2 e⟩
        rw [upd_ne (ne_of ec ea (fun z => nomatch z))]
        exact ec
end Nx
/-! C() of an own class that has no `__init__`. -/
namespace Mk0
open PySem PySem.Spec PyProof.Rows L2 Ow
structure Bare (K : PySem.W.Frag) (mg : Str → Option Value) (x : Str) (C : Addr) : Prop where
  make : PySem.W.makesIn K C = true
  ini : PySem.W.findIn K (.ref C) "__init__" = some (some (.builtin "object.__init__"))
  kp : PySem.W.keepIn K (.ref C) = true
  g : mg x = some (.ref C)
section
variable {X : Cx} {pins : List (Addr × Obj)} {σ : L2.St} {H : Hp} {s : Shared} {C : Addr} {Q : VK} {x : Str} {p pos : Pos}
def tBare (C : Addr) : TE := fun _ H Q => ∀ y dy, H y = none → H dy = none → dy ≠ y → Q (.ref y) (upd (upd H dy (.own y)) y (.ins C dy []))
theorem run_bare (B : Bare X.K X.mg x C) (I : Inv X pins σ H s) (h : tBare C σ H Q) : wpAny (model X.prog X.w) X.A (call (.ref C) []) (EP X pins σ Q) X.xe s := by
  have hq := h (s.heap.objs.size + 1) s.heap.objs.size (I.hok.fresh (Nat.le_succ _)) (I.hok.fresh (Nat.le_refl _)) (Nat.ne_of_lt (Nat.lt_succ_self _))
  have I2 := Inv.made (C := C) I
  have XK := I.kIn
  obtain ⟨hh, g, d, t, os⟩ := s
  have Y := PySem.W.makes_of (M := model X.prog X.w) XK B.make
  refine wpAny_call (PySem.W.make_core Y (PySem.W.looks_findIn XK B.ini) (fun self => PySem.W.Looks.of_pure (PySem.W.oi_bind self)) (.inr ⟨rfl, rfl⟩) ?_)
  have hx : ((hh.push PySem.W.emptyDict).push (PySem.W.instObj C hh.objs.size)).get? (hh.objs.size + 1) = some (PySem.W.instObj C hh.objs.size) := by
    have := Heap.get?_push_size (hh.push PySem.W.emptyDict) (o := PySem.W.instObj C hh.objs.size) rfl
    rwa [Heap.size_push] at this
  have t1 : PySem.W.Looks (model X.prog X.w) ((hh.push PySem.W.emptyDict).push (PySem.W.instObj C hh.objs.size)) (typeOf (.ref (hh.objs.size + 1))) (.ref C) := (PySem.W.Looks.ld hx).andThen .now
  have t2 : PySem.W.Looks (model X.prog X.w) ((hh.push PySem.W.emptyDict).push (PySem.W.instObj C hh.objs.size)) (isInstance (.ref (hh.objs.size + 1)) (.type "object")) true := t1.andThen (Y.top.keeps fun b o e => Heap.get?_push_of_some _ (Heap.get?_push_of_some _ e))
  refine PySem.codeAny_call_builtin PySem.W.oi_plain PySem.W.entry_oi (@PySem.W.check_slot (model X.prog X.w) _ _ _ "object.__init__" "object" "__init__" (.ref (hh.objs.size + 1)) [] [] _ PySem.W.oi_kind PySem.W.oi_split t2 (PySem.W.oi_args (.ref (hh.objs.size + 1))) ?_)
  rw [PySem.W.oi_run]
  exact wpAny_pure (And.intro rfl ⟨V.ref (hh.objs.size + 1), _, I2, rfl, hq⟩)
theorem pe_bare (B : Bare X.K X.mg x C) (hg : Gl X x := by rfl) (hdb : (x == ("__debug__" : Str)) = false := by decide) : PE X (.Call (.Name x p) [] [] pos) (tBare C) := by
  refine ⟨fun pins s σ H Q I h => ?_⟩
  refine wpAny_Call_Name_kw (ld_glob I hg B.g ?_ hdb)
  exact PySem.W.callWith_K0 I.kIn B.kp (run_bare B I h)
end
end Mk0
/-! super().m(..) in a method of an own class, m a def of the class above: as the value of a `return .. and ..`, or in an `if not ..`. -/
namespace SupM
open PySem PySem.Spec PyProof.Rows L2 NdefX Sup Ow
section
variable {X : Cx} {pins : List (Addr × Obj)} {σ : List (Option V)} {H : Hp} {s : Shared} {self m : Str} {D a C dx g : Addr} {fs : List (Str × V)} {body : List Stmt} {p0 p1 p2 pos pos' : Pos} {e : Expr} {es : List Expr} {ta : TA} {pl : Sem Bool} {k : Nat} {sp : Sp} {Q : VK}
/-- the class above has the def g under the name m -/
structure SupA (K : PySem.W.Frag) (C D : Addr) (m : Str) (g : Addr) : Prop where
  cls : ∃ cd, PySem.W.clsIn K D = some cd
  sub : PySem.W.mroIn K C (.ref D) = some true
  sup : PySem.W.ks_superIn K C D m = some (some (.ref g))
  ty : PySem.W.typeIn K (.ref g) = some (.type "function")
  fn : PySem.W.fnIn K g = true
  nc : (m == ("__class__" : Str)) = false
theorem sup_eval (I : Inv X pins σ H s) (S : SupF X.prog X.K X.mg X.env self D) (T : SupA X.K C D m g) (F : FnR X.prog X.w X.K X.mg X.base CX0 k g sp) (hr : Room k X.A) (hN : X.N[0]? = some self) (h0 : σ[0]? = some (some (.ref a))) (ea : H a = some (.ins C dx fs)) (ha : PA X (e :: es) ta)
    (h : ta σ H fun vs H2 => sp (.ref a :: vs) H2 Q E0)
    (hev : eval (.Call (.Attribute (.Call (.Name "super" p0) [] [] p1) m p2) (e :: es) [] pos) X.env = (do
      let ov ← attributeBase (.Call (.Name "super" p0) [] [] p1) m X.env (eval (.Call (.Name "super" p0) [] [] p1) X.env)
      standAt p2.atName
      let (f, first) ← holding [ov] (getMethod ov m pl)
      callWith pos f first (backTo pos (starEach (e :: es) X.env)) []) := by rfl)
    (he : starEach (e :: es) X.env = (false, eval e X.env) :: starEach es X.env := by rfl) (hpl : (backTo pos (starEach es X.env)).any (·.1) = false := by rfl) :
    _root_.PySem.wpAt (model X.prog X.w) X.A (.func body X.env) (eval (.Call (.Attribute (.Call (.Name "super" p0) [] [] p1) m p2) (e :: es) [] pos) X.env) (EP X pins σ Q) X.xe s := by
  refine ks_wpAt_MethodCall ?_ hev
  obtain ⟨f, oc, od, fd, osl, ar, hfu, lf, hp, har⟩ := S.fn
  obtain ⟨cda, ccl, cdd, vs, ccs, file, tf, hco, lc, hvs, hfile⟩ := S.co
  obtain ⟨cc, cl, cld, csl, hcl, lcc⟩ := S.ce
  obtain ⟨mm, v, hn, hv, rv⟩ := self_at I hN h0 S.ka
  obtain rfl : v = Value.ref a := rv
  obtain ⟨oi, inst⟩ := inst_of I ea
  obtain ⟨cdD, hD⟩ := T.cls
  have XK := I.kIn
  obtain ⟨oD, hD1, hD2⟩ : ∃ oD, s.heap.get? D = some oD ∧ oD.data = .cls cdD := by
    unfold PySem.W.clsIn at hD
    split at hD
    · rename_i c d cd' sl ho
      cases hD
      exact ⟨_, XK _ _ ho, rfl⟩
    · cases hD
  refine ks_wpAt_super_base S.ks S.kc T.nc hfu (XK _ _ lf) rfl hp hco (XK _ _ lc) rfl hvs hfile S.top ?_
  refine ld_super I S ⟨rfl, ?_⟩
  refine wpAny_loadName_free I.ok.kind S.kc hcl ⟨_, XK _ _ lcc, rfl⟩ ?_
  refine wpAny_loadName_local I.ok.kind (har ▸ S.ka) hn (har ▸ hv) ?_
  refine ks_wpAny_isType_cls hD1 hD2 ⟨rfl, ?_⟩
  obtain ⟨hp0, gg, d, t, os⟩ := s
  refine ks_wpAny_call_super hD1 hD2 inst.at_ rfl (fun c e => by cases e) (PySem.W.looks_mroIn XK T.sub) fun h' eso k2 => ?_
  have I2 : Inv X pins σ H ⟨h', gg, d, t, os⟩ := I.kept (t' := t) k2
  have XK2 := I2.kIn
  have sup := T.sup
  unfold PySem.W.ks_superIn at sup
  cases hc : PySem.W.clsIn X.K C with
  | none =>
    rw [hc] at sup
    cases sup
  | some cd =>
    rw [hc] at sup
    obtain ⟨oi2, inst2⟩ := inst_of I2 ea
    obtain ⟨of, hof, hofc⟩ : ∃ of, h'.get? g = some of ∧ of.cls = .type "function" := by
      have ht' : (X.K.lookup g).map (·.cls) = some (.type "function") := T.ty
      cases z : X.K.lookup g with
      | none => rw [z] at ht'; cases ht'
      | some of => rw [z] at ht'; exact ⟨of, XK2 _ _ z, Option.some.inj ht'⟩
    refine ks_wpAny_getMethod_super eso (PySem.W.looks_opaque XK2 S.any) (l₀ := cd.mro) ?_ rfl XK2 sup hof hofc (PySem.W.ks_ne XK2 inst2 hc) T.nc ?_
    · exact fun A Q E s k q => wpAny_bind ((PySem.W.looks_clsIn XK2 hc) A _ E s k (wpAny_pure q))
    · have I3 := ClX.met_new (g := g) (C := a) I2
      refine ClX.callwith_cm I3 (ClX.base_none I2 (Nat.le_refl _)) T.fn (thn (ha.run pos _ _ σ H _ I3 h) fun us s3 ⟨vs, H2, I4, rv, q2⟩ => ⟨⟨ClX.pin_at I4, I4.kIn⟩, ?_⟩) he hpl
      exact ClX.run_cm F hr L2.pass0 I4 rv q2
end
/-! ### expressions, tests, statements that know the body they stand in -/
section
variable {M : Model} {A : Around} {c : Code} {E : Value → Shared → Prop} {s : Shared} {env : Env}
theorem at_and {e₁ e₂ : Expr} {rest : List Expr} {pos : Pos} {Q : Value → Shared → Prop}
    (h : _root_.PySem.wpAt M A c (eval e₁ env) (fun v s₁ => wpAny M A (truthy v) (fun c s₂ => if c then wpAny M A (eval (.BoolOp .And (e₂ :: rest) pos) env) Q E s₂ else Q v s₂) E s₁) E s) :
    _root_.PySem.wpAt M A c (eval (.BoolOp .And (e₁ :: e₂ :: rest) pos) env) Q E s := by
  show _root_.PySem.wpAt M A c (do
    let v ← eval e₁ env
    standAt pos
    let c ← holding [v] (truthy v)
    match BoolOp.And, c with
    | .And, false | .Or, true => pure v
    | _, _ => boolOp pos .And (eval e₂ env :: evalEach rest env)) Q E s
  refine _root_.PySem.wpAt_bind (ks_wpAt_mono h (fun v s₁ h₁ => wpAt_of_wpAny (wpAny_bind (wpAny_standAt (wpAny_bind (wpAny_holding (wpAny_mono h₁ (fun c s₂ h₂ => ?_) fun _ _ x => x)))))) fun _ _ x => x)
  cases c with
  | false => exact wpAny_pure h₂
  | true => exact h₂
theorem at_not {x : Expr} {pos : Pos} {whole : Sem Value} {Q : Bool → Shared → Prop} (h : _root_.PySem.wpAt M A c (isTrue x env (eval x env)) (fun c s' => Q (!c) s') E s) :
    _root_.PySem.wpAt M A c (isTrue (.UnaryOp .Not x pos) env whole) Q E s := by
  show _root_.PySem.wpAt M A c (do return !(← isTrue x env (eval x env))) Q E s
  exact _root_.PySem.wpAt_bind (ks_wpAt_mono h (fun c s' h' => wpAt_of_wpAny (wpAny_pure h')) fun _ _ x => x)
theorem at_or {x : Expr} {rest : List Expr} {pos : Pos} {whole : Sem Value} {Q : Bool → Shared → Prop}
    (h : _root_.PySem.wpAt M A c (isTrue x env (eval x env)) (fun c s' => if c then Q true s' else wpAny M A (isTrue (.BoolOp .Or rest pos) env whole) Q E s') E s) :
    _root_.PySem.wpAt M A c (isTrue (.BoolOp .Or (x :: rest) pos) env whole) Q E s := by
  show _root_.PySem.wpAt M A c (do
    match BoolOp.Or, ← isTrue x env (eval x env) with
    | .And, false => pure false
    | .Or, true => pure true
    | _, _ => allTrue .Or rest env) Q E s
  refine _root_.PySem.wpAt_bind (ks_wpAt_mono h (fun c s' h' => wpAt_of_wpAny ?_) fun _ _ x => x)
  cases c with
  | false => exact h'
  | true => exact wpAny_pure h'
end
section
variable {X : Cx} {body : List Stmt} {e a b : Expr} {rest : List Expr} {st : Stmt} {sts : List Stmt} {pos : Pos} {te ta tb : TE} {tA tB' : TT} {t u : TS}
structure PEa (X : Cx) (body : List Stmt) (e : Expr) (te : TE) : Prop where
  run : ∀ pins s σ H Q, Inv X pins σ H s → te σ H Q → _root_.PySem.wpAt (model X.prog X.w) X.A (.func body X.env) (eval e X.env) (EP X pins σ Q) X.xe s
structure PTa (X : Cx) (body : List Stmt) (e : Expr) (t : TT) : Prop where
  run : ∀ pins s σ H Q, Inv X pins σ H s → t σ H Q → _root_.PySem.wpAt (model X.prog X.w) X.A (.func body X.env) (isTrue e X.env (eval e X.env)) (TP X pins σ Q) X.xe s
structure PSa (X : Cx) (body : List Stmt) (st : Stmt) (t : TS) : Prop where
  run : ∀ pins s σ H D, Inv X pins σ H s → t D σ H → _root_.PySem.wpAt (model X.prog X.w) X.A (.func body X.env) (exec st X.env) (SP X pins D) X.xe s
structure PSsa (X : Cx) (body : List Stmt) (sts : List Stmt) (t : TS) : Prop where
  run : ∀ pins s σ H D, Inv X pins σ H s → t D σ H → _root_.PySem.wpAt (model X.prog X.w) X.A (.func body X.env) (execs sts X.env) (SP X pins D) X.xe s
/-- super().m(..), self the first name -/
def tSupM (C : Addr) (sp : Sp) (ta : TA) : TE := fun σ H Q => ∃ a dx fs, σ[0]? = some (some (.ref a)) ∧ H a = some (.ins C dx fs) ∧ ta σ H fun vs H2 => sp (.ref a :: vs) H2 Q E0
theorem pea_sup {self m : Str} {D C g : Addr} {k : Nat} {sp : Sp} {p0 p1 p2 : Pos} {es : List Expr} {ta : TA} {pl : Sem Bool} (S : SupF X.prog X.K X.mg X.env self D) (T : SupA X.K C D m g) (F : FnR X.prog X.w X.K X.mg X.base CX0 k g sp) (hr : Room k X.A) (hN : X.N[0]? = some self) (ha : PA X (e :: es) ta)
    (hev : eval (.Call (.Attribute (.Call (.Name "super" p0) [] [] p1) m p2) (e :: es) [] pos) X.env = (do
      let ov ← attributeBase (.Call (.Name "super" p0) [] [] p1) m X.env (eval (.Call (.Name "super" p0) [] [] p1) X.env)
      standAt p2.atName
      let (f, first) ← holding [ov] (getMethod ov m pl)
      callWith pos f first (backTo pos (starEach (e :: es) X.env)) []) := by rfl)
    (he : starEach (e :: es) X.env = (false, eval e X.env) :: starEach es X.env := by rfl) (hpl : (backTo pos (starEach es X.env)).any (·.1) = false := by rfl) :
    PEa X body (.Call (.Attribute (.Call (.Name "super" p0) [] [] p1) m p2) (e :: es) [] pos) (tSupM C sp ta) :=
  ⟨fun _ _ _ _ _ I ⟨_, _, _, h0, ea, h⟩ => sup_eval I S T F hr hN h0 ea ha h hev he hpl⟩
theorem pea_and (ha : PEa X body a ta) (hb : PE X (.BoolOp .And (b :: rest) pos) tb) : PEa X body (.BoolOp .And (a :: b :: rest) pos) (tAndV ta tb) := by
  refine ⟨fun pins s σ H Q I h => ?_⟩
  refine at_and (ks_wpAt_mono (ha.run pins s σ H _ I h) (fun v s1 ⟨x, H1, I1, r1, q1⟩ => ?_) fun _ _ z => z)
  obtain ⟨c, rfl, q1⟩ := q1
  cases r1
  refine wpAny_truthy_bool ?_
  cases c with
  | true => exact hb.run pins s1 σ H1 Q I1 q1
  | false => exact ⟨.bl false, H1, I1, rfl, q1⟩
theorem pta_val (h : PEa X body e te) (he : ∀ whole, isTrue e X.env whole = (do let v ← whole; standAt e.pos; holding [v] (truthy v)) := by intro _; rfl) : PTa X body e (tB te) := by
  refine ⟨fun pins s σ H Q I hw => ?_⟩
  rw [he]
  refine _root_.PySem.wpAt_bind (ks_wpAt_mono (h.run pins s σ H _ I hw) (fun v s1 ⟨x, H1, I1, r1, q1⟩ => wpAt_of_wpAny (wpAny_bind (wpAny_standAt (wpAny_holding ?_)))) fun _ _ z => z)
  obtain ⟨d, rfl, q⟩ := q1
  cases r1
  exact wpAny_truthy_bool ⟨H1, I1, q⟩
theorem pta_not (h : PTa X body a tA) : PTa X body (.UnaryOp .Not a pos) (tNot tA) := ⟨fun pins s σ H Q I hw => at_not (h.run pins s σ H (fun c H1 => Q (!c) H1) I hw)⟩
theorem pta_or (ha : PTa X body a tA) (hb : PW X (.BoolOp .Or (b :: rest) pos) tB') : PTa X body (.BoolOp .Or (a :: b :: rest) pos) (tOr tA tB') := by
  refine ⟨fun pins s σ H Q I h => ?_⟩
  refine at_or (ks_wpAt_mono (ha.run pins s σ H _ I h) (fun c s1 ⟨H1, I1, q1⟩ => ?_) fun _ _ z => z)
  cases c with
  | true => exact ⟨H1, I1, q1⟩
  | false => exact hb.run _ pins s1 σ H1 Q I1 q1
theorem psa_ret (h : PEa X body e te) : PSa X body (.Return (some e) pos) (tRet te) :=
  ⟨fun pins s σ H D I w => ks_wpAt_Return_some (ks_wpAt_mono (h.run pins s σ H _ I w) (fun v s1 ⟨x, H1, I1, r1, q1⟩ => ⟨x, σ, H1, I1, r1, q1⟩) fun _ _ z => z)⟩
theorem psa_if {c : Expr} {x y : List Stmt} {tc : TT} (hc : PTa X body c tc) (ha : PSs X x t) (hb : PSs X y u) : PSa X body (.If c x y pos) (tIfS tc t u) := by
  refine ⟨fun pins s σ H D I h => ?_⟩
  refine ks_wpAt_If (ks_wpAt_mono (hc.run pins s σ H _ I h) (fun d s1 ⟨H1, I1, q1⟩ => ?_) fun _ _ z => z)
  cases d with
  | true => exact wpAt_of_wpAny (ha.run pins s1 σ H1 D I1 q1)
  | false => exact wpAt_of_wpAny (hb.run pins s1 σ H1 D I1 q1)
theorem PSa.of (h : PS X st t) : PSa X body st t := ⟨fun pins s σ H D I w => wpAt_of_wpAny (h.run pins s σ H D I w)⟩
theorem PSsa.of (h : PSs X sts t) : PSsa X body sts t := ⟨fun pins s σ H D I w => wpAt_of_wpAny (h.run pins s σ H D I w)⟩
theorem pssa_cons (h : PSa X body st t) (hs : PSsa X body sts u) : PSsa X body (st :: sts) (tSeq t u) := by
  refine ⟨fun pins s σ H D I w => ?_⟩
  refine ks_wpAt_execs_cons (ks_wpAt_mono (h.run pins s σ H _ I w) (fun fl s1 hf => ?_) fun _ _ z => z)
  cases fl with
  | next =>
    obtain ⟨σ', H', J, q⟩ := hf
    exact hs.run pins s1 σ' H' D J q
  | brk => exact hf
  | cont => exact hf
  | ret u => exact hf
theorem pssa_one (h : PSa X body st t) : PSsa X body [st] t := by
  refine ⟨fun pins s σ H D I w => ?_⟩
  refine ks_wpAt_execs_cons (ks_wpAt_mono (h.run pins s σ H _ I w) (fun fl s1 hf => ?_) fun _ _ z => z)
  cases fl with
  | next => exact wpAt_of_wpAny (wpAny_execs_nil hf)
  | brk => exact hf
  | cont => exact hf
  | ret u => exact hf
end
section
variable {CX : CXT} {P : Program} {w : World} {K : PySem.W.Frag} {mg : Str → Option Value} {base : Heap} {k : Nat} {F : NF} {f cc D : Addr} {kV doc pm ct oc : Value} {an od : Option Addr} {osl : Array (Option Value)} {N ps : List Str} {sp : Sp}
/-- a def with the class's cell, whose body says super() -/
theorem fn_at (lk : K.lookup f = some ⟨oc, od, .func (PySem.W.fnX F.name F.qual F.params F.body F.scope F.cl .none kV doc pm an (.ref F.c) ct), osl⟩) (hcd : PySem.W.codeIn K (.ref F.c) F.qual = true) (hcl : F.cl = [(("__class__" : Str), cc)])
    (hcc : ∃ cl cld csl, K.lookup cc = some ⟨cl, cld, .cell (some (.ref D)), csl⟩) (S : NScope N ps ["__class__"] F.scope)
    (len : ∀ vs H Q E, sp vs H Q E → vs.length = ps.length)
    (hbody : ∀ (A : Around) (outer : List Env) (s : Shared) (H : Hp) (vs : List V) (Q : VK) (E : XK), Room k (A.deeper (envF F f s.heap.objs.size)) → sp vs H Q E →
      ∃ t : TS, PSsa (ncx CX P w K mg base N F f A outer s H E) F.body F.body t ∧ t { nx := fun _ H' => Q .non H', rt := Q } (startF N vs [none]) H) :
    FnOk P w K mg base CX (k + 1) f (PySem.W.fnX F.name F.qual F.params F.body F.scope F.cl .none kV doc pm an (.ref F.c) ct) ps sp := by
  refine ⟨len, fun A outer s H args us vs Q E hr e0 hb r hsp => ?_⟩
  have hl := len _ _ _ _ hsp
  have KX : K.In s.heap := e0.mod.kin.keeps fun b o e => (e0.bs b o e).1
  have lim : s.heap.NoLimit := e0.mod.nolimit.keeps fun b o e => (e0.bs b o e).1
  obtain ⟨cl, cld, csl, hcc⟩ := hcc
  have C : CellsAt F.cl ["__class__"] [none] s.heap H := by
    have one : ∀ {y : Str} {c : Addr}, F.cl.lookup y = some c → y = "__class__" ∧ c = cc := fun {y c} e => by
      rw [hcl] at e
      by_cases h : y = ("__class__" : Str)
      · subst h
        have e2 : some cc = some c := e
        exact ⟨rfl, (Option.some.inj e2).symm⟩
      · have h2 : (y == ("__class__" : Str)) = false := by simpa using h
        rw [List.lookup_cons, h2] at e
        cases e
    refine ⟨rfl, fun y c e => ?_, fun x y c e1 e2 => (one e1).1.trans (one e2).1.symm, fun i y hi => ?_⟩
    · rw [(one e).2]
      exact ⟨(e0.bs _ _ (e0.mod.kin _ _ hcc)).2, _, ⟨_, KX _ _ hcc, rfl⟩⟩
    · cases i with
      | zero =>
        have e : ("__class__" : Str) = y := Option.some.inj hi
        refine ⟨cc, by rw [hcl, ← e]; rfl, fun v hv => ?_⟩
        cases hv
      | succ i => cases hi
  refine ks_codeAny_call_defAt hr.depth (KX _ _ lk) rfl lim (PySem.W.codeRec_of KX hcd) rfl hb S.nocell (fun ⟨n, v⟩ hy => S.par n (List.of_mem_zip hy).1) (fun h₁ hns kp => ?_) S.co S.gen S.kind
  show _root_.PySem.wpAt (model P w) (A.deeper (envF F f s.heap.objs.size)) (.func F.body (envF F f s.heap.objs.size)) (execs F.body (envF F f s.heap.objs.size)) _ _ _
  obtain ⟨t, ps', hq⟩ := hbody A outer s H vs Q E (hr.deeper _) hsp
  have I : Inv (ncx CX P w K mg base N F f A outer s H E) [] (startF N vs [none]) H { s with heap := h₁, toks := s.toks + (ps.zip us).length } := inv_startN S hr.hd e0 hl r C hns kp
  have fin : ∀ {s' : Shared} {σ' : L2.St} {H' : Hp} {v : V} {u : Value}, Inv (ncx CX P w K mg base N F f A outer s H E) [] σ' H' s' → L2.RelV v u → Q v H' → CE outer P w H s Q u s' :=
    fun {s' σ' H' v u} J rv q => ⟨v, H', J.os, J.bare, J.base, J.hok, rv, q⟩
  refine ks_wpAt_mono (ps'.run [] _ (startF N vs [none]) H _ I hq) (fun fl s' hs => ?_) fun e s' hs => hs
  cases fl with
  | ret u =>
    obtain ⟨v, σ', H', J, rv, q⟩ := hs
    exact fin J rv q
  | next =>
    obtain ⟨σ', H', J, q⟩ := hs
    exact fin (v := V.non) (u := Value.none) J rfl q
  | brk =>
    obtain ⟨_, _, _, q⟩ := hs
    exact False.elim q
  | cont =>
    obtain ⟨_, _, _, q⟩ := hs
    exact False.elim q
end
end SupM
/-! A def that says super() and has cells of its own (locals that its comprehensions read). -/
namespace SupC
open PySem PySem.Spec PyProof.Rows L2 NdefX Sup Ow SupM
theorem cf_app : ∀ (ns : List (Str × NameKind)) (n : Nat) (acc : List (Str × Addr)), cellsFrom n ns acc = cellsFrom n ns [] ++ acc
  | [], _, _ => rfl
  | (x, k) :: r, n, acc => by
    unfold cellsFrom
    split
    · rw [cf_app r (n + 1) ((x, n) :: acc), cf_app r (n + 1) [(x, n)], List.append_assoc]
      rfl
    · exact cf_app r n acc
theorem look_app {α : Type} {x : Str} : ∀ {l m : List (Str × α)} {c : α}, (l ++ m).lookup x = some c → l.lookup x = some c ∨ m.lookup x = some c
  | [], m, c, h => .inr h
  | (y, d) :: l, m, c, h => by
    rw [List.cons_append, List.lookup_cons] at h
    rw [List.lookup_cons]
    cases e : x == y with
    | true =>
      rw [e] at h
      exact .inl h
    | false =>
      rw [e] at h
      exact look_app h
section
variable {M : Model} {A : Around} {E : Value → Shared → Prop} {s : Shared}
theorem newEnv_own {scope : Scope} {globals : Addr} {cl : List (Str × Addr)} {binds : List (Str × Value)} {qual : Str} {func : Option Addr} {code : Value} {builtins : Addr} {Q : Env → Shared → Prop}
    (hl : ∀ x ∈ binds, scope.names.lookup x.1 = some .local) (hk : scope.kind = .function)
    (hQ : ∀ h' tk, h'.Ns s.heap.objs.size (fun x => binds.reverse.lookup x) → (∀ b o, s.heap.get? b = some o → h'.get? b = some o) → CellsOk h' (s.heap.objs.size + 1) (cellsFrom (s.heap.objs.size + 1) scope.names []) →
      Q (newEnv scope s.heap.objs.size globals (cellsFrom (s.heap.objs.size + 1) scope.names cl) qual func code none builtins) { s with heap := h', toks := tk }) :
    wpAny M A (newFunctionEnv scope globals cl binds qual func code none builtins) Q E s := by
  simp only [newFunctionEnv, Option.isSome_none, Bool.false_eq_true, if_false]
  refine wpAny_bind (wpAny_alloc ?_)
  refine wpAny_bind (wpAny_layCells _ (fun name kind cells => by cases hkc : kind == NameKind.cell <;> simp [hkc]) _ _ _ _ ?_)
  have ok := cellsFrom_ok scope.names (s.heap.push { cls := .type "frame", data := .dict #[] }) (s.heap.objs.size + 1) [] ⟨fun _ _ hm => (nomatch hm), List.Pairwise.nil⟩ (by rw [Heap.size_push]; exact Nat.le_refl _)
  rw [Heap.size_push] at ok
  rw [show ({ s with heap := s.heap.push { cls := .type "frame", data := .dict #[] } } : Shared).heap.objs.size = s.heap.objs.size + 1 from Heap.size_push ..]
  have keep : ∀ b o, s.heap.get? b = some o → (pushCells (s.heap.push { cls := .type "frame", data := .dict #[] }) scope.names).get? b = some o := fun b o e => pushCells_keeps _ _ b o (Heap.get?_push_of_some _ e)
  refine wpAny_bind (wpAny_forIn_list _ (fun rest _ s' => ∃ (done : List (Str × Value)) (h' : Heap) (tk : Nat), binds = done ++ rest ∧ s' = { s with heap := h', toks := tk } ∧ h'.Ns s.heap.objs.size (fun x => done.reverse.lookup x) ∧ Heap.SameBut s.heap.objs.size (pushCells (s.heap.push { cls := .type "frame", data := .dict #[] }) scope.names) h') _ ?_ ?_ binds _
    ⟨[], _, _, rfl, rfl, (Heap.Ns.new s.heap (.type "frame")).keeps (pushCells_keeps _ _), Heap.SameBut.refl ..⟩)
  · rintro ⟨name, v⟩ rest _ s' ⟨done, h', tk, hb, rfl, hns, hsb⟩
    have hkd : Env.kindOf (newEnv scope s.heap.objs.size globals (cellsFrom (s.heap.objs.size + 1) scope.names cl) qual func code none builtins) name = some .local := hl (name, v) (by rw [hb]; simp)
    refine wpAny_bind (wpAny_storeName_local (env := newEnv scope s.heap.objs.size globals (cellsFrom (s.heap.objs.size + 1) scope.names cl) qual func code none builtins) hkd hns (fun h2 hn2 hs2 => wpAny_pure ⟨done ++ [(name, v)], h2, _, by rw [hb, List.append_assoc]; rfl, rfl, ?_, hsb.trans hs2⟩) (by show (scope.kind == .class || (scope.kind == .module && _)) = false; rw [hk]; rfl))
    have e : (fun x => (done ++ [(name, v)]).reverse.lookup x) = fun x => if x = name then some v else done.reverse.lookup x := funext fun x => by
      rw [List.reverse_append]
      show List.lookup x ((name, v) :: done.reverse) = _
      rw [List.lookup_cons]
      by_cases h : x = name
      · rw [if_pos h, beq_iff_eq.mpr h]
      · rw [if_neg h, beq_false_of_ne h]
    rw [e]
    exact hn2
  · rintro _ s' ⟨done, h', tk, hb, rfl, hns, hsb⟩
    rw [List.append_nil] at hb
    subst hb
    refine wpAny_pure (hQ h' tk hns (fun b o e => hsb.extBut b o (Nat.ne_of_lt (Heap.lt_size e)) (keep b o e)) ⟨fun n c hm => ?_, ok.apart⟩)
    obtain ⟨h1, h2⟩ := ok.empty n c hm
    exact ⟨h1.sameBut hsb (Nat.ne_of_gt h2), h2⟩
end
/-- names, parameters, the class's cell behind them; own cells are no parameters -/
structure CScope (N ps : List Str) (sc : Scope) : Prop where
  kind : sc.kind = .function
  co : sc.isCoroutine = false
  gen : sc.isGenerator = false
  nd : N.Nodup
  pre : N.take (ps.length + 1) = ps ++ [("__class__" : Str)]
  par : ∀ x ∈ ps, sc.names.lookup x = some .local
  free : ∀ y ∈ sc.names, y.2 = .free → y.1 = ("__class__" : Str)
  frk : sc.names.lookup ("__class__" : Str) = some .free
  uniq : (sc.names.map (·.1)).Nodup
def cscB (N ps : List Str) (sc : Scope) : Bool :=
  decide (sc.kind = .function) && !sc.isCoroutine && !sc.isGenerator && decide N.Nodup && decide (N.take (ps.length + 1) = ps ++ [("__class__" : Str)]) && ps.all (fun x => decide (sc.names.lookup x = some .local)) && sc.names.all (fun y => !decide (y.2 = .free) || decide (y.1 = ("__class__" : Str))) && decide (sc.names.lookup ("__class__" : Str) = some .free) && decide (sc.names.map (·.1)).Nodup
theorem cscope_by {N ps : List Str} {sc : Scope} (h : cscB N ps sc = true) : CScope N ps sc := by
  unfold cscB at h
  simp only [Bool.and_eq_true, Bool.not_eq_true', decide_eq_true_eq, List.all_eq_true, Bool.or_eq_true, decide_eq_false_iff_not] at h
  obtain ⟨⟨⟨⟨⟨⟨⟨⟨h1, h2⟩, h3⟩, h4⟩, h5⟩, h6⟩, h7⟩, h8⟩, h9⟩ := h
  exact ⟨h1, h2, h3, h4, h5, h6, fun y hy e => (h7 y hy).elim (fun z => absurd e z) id, h8, h9⟩
abbrev envC (F : NF) (f L : Addr) : Env := PySem.W.envX F.qual F.scope L f (.ref F.c) (cellsFrom (L + 1) F.scope.names F.cl)
def cxC (CX : CXT) (P : Program) (w : World) (K : PySem.W.Frag) (mg : Str → Option Value) (base : Heap) (N : List Str) (F : NF) (f : Addr) (A : Around) (outer : List Env) (s : Shared) (H : Hp) (E : XK) : Cx where
  prog := P
  w := w
  K := K
  mg := mg
  base := base
  A := A.deeper (envC F f s.heap.objs.size)
  N := N
  s_0 := s
  H_0 := H
  env := envC F f s.heap.objs.size
  outer := outer
  stack := envC F f s.heap.objs.size :: outer
  ex := []
  calm := true
  fn := fun x => !decide (x = ("__class__" : Str))
  pn := []
  xe := fun e s' => wpAny (model P w) (A.deeper (envC F f s.heap.objs.size)) (leaving (envC F f s.heap.objs.size) e) (fun _ s'' => CX outer H s E e s'') (fun e' s'' => CX outer H s E e' s'') s'
/-- the names of the own cells -/
theorem own_cell : ∀ {ns : List (Str × NameKind)} {n : Nat} {x : Str} {c : Addr}, (x, c) ∈ cellsFrom n ns [] → (x, NameKind.cell) ∈ ns ∧ n ≤ c
  | [], _, _, _, h => by cases h
  | (y, k) :: r, n, x, c, h => by
    unfold cellsFrom at h
    split at h
    · rename_i hk
      rw [cf_app] at h
      rcases List.mem_append.mp h with h | h
      · obtain ⟨h1, h2⟩ := own_cell h
        exact ⟨List.mem_cons_of_mem _ h1, by omega⟩
      · have e := List.mem_singleton.mp h
        cases e
        rw [beq_iff_eq.mp hk]
        exact ⟨List.mem_cons_self .., Nat.le_refl _⟩
    · obtain ⟨h1, h2⟩ := own_cell h
      exact ⟨List.mem_cons_of_mem _ h1, h2⟩
theorem look_in {ns : List (Str × NameKind)} (nd : (ns.map (·.1)).Nodup) {x : Str} {k : NameKind} (h : (x, k) ∈ ns) : ns.lookup x = some k := by
  induction ns with
  | nil => cases h
  | cons p r ih =>
    obtain ⟨y, j⟩ := p
    obtain ⟨n1, n2⟩ := List.nodup_cons.mp nd
    rw [List.lookup_cons]
    rcases List.mem_cons.mp h with h | h
    · cases h
      rw [beq_self_eq_true]
    · have ne : x ≠ y := fun e => n1 (e ▸ List.mem_map.mpr ⟨_, h, rfl⟩)
      rw [beq_false_of_ne ne]
      exact ih n2 h
theorem cell_has2 {sc : Scope} {n : Nat} {x : Str} {cl : List (Str × Addr)} (h : sc.names.lookup x = some .cell) : ∃ c, (cellsFrom n sc.names cl).lookup x = some c := by
  obtain ⟨c, e⟩ := cell_has (n := n) h
  refine ⟨c, ?_⟩
  rw [cf_app]
  rw [List.lookup_append, e]
  rfl
section
variable {CX : CXT} {P : Program} {w : World} {K : PySem.W.Frag} {mg : Str → Option Value} {base : Heap} {N ps : List Str} {F : NF} {f cc D : Addr} {A : Around} {outer : List Env} {s : Shared} {H : Hp} {E : XK} {us : List Value} {vs : List V} {k : Nat} {sp : Sp} {oc kV doc pm ct : Value} {od an : Option Addr} {osl : Array (Option Value)}
theorem inv_startC {h₁ : Heap} {tk : Nat} (S : CScope N ps F.scope) (hd : A.handled = none) (e0 : Env0 P w K mg base A outer s H) (hl : vs.length = ps.length) (r : Vals vs us) (hcl : F.cl = [(("__class__" : Str), cc)])
    (hcc : ∃ v, s.heap.IsCell cc v) (hH : H cc = none) (hlt : cc < s.heap.objs.size) (hns : h₁.Ns s.heap.objs.size fun y => (ps.zip us).reverse.lookup y)
    (kp : ∀ b o, s.heap.get? b = some o → h₁.get? b = some o) (ok : CellsOk h₁ (s.heap.objs.size + 1) (cellsFrom (s.heap.objs.size + 1) F.scope.names [])) : Inv (cxC CX P w K mg base N F f A outer s H E) [] (startF N vs [none]) H { s with heap := h₁, toks := tk } := by
  have hpl : ps.length + 1 ≤ N.length := by
    have q := congrArg List.length S.pre
    rw [List.length_take, List.length_append] at q
    simp only [List.length_cons, List.length_nil] at q
    omega
  have noA : ∀ b : Addr, b ∉ (cxC CX P w K mg base N F f A outer s H E).ex := fun b z => absurd (show b ∈ ([] : List Addr) from z) (by simp)
  have cellK : ∀ {c : Addr} {v : Option Value}, s.heap.IsCell c v → h₁.IsCell c v := fun {c v} ⟨o, ho, hd⟩ => ⟨o, kp _ _ ho, hd⟩
  -- every cell is an own one or the class's
  have two : ∀ {x : Str} {c : Addr}, (cellsFrom (s.heap.objs.size + 1) F.scope.names F.cl).lookup x = some c → ((x, c) ∈ cellsFrom (s.heap.objs.size + 1) F.scope.names [] ∧ s.heap.objs.size + 1 ≤ c) ∨ (x = ("__class__" : Str) ∧ c = cc) := fun {x c} h => by
    rw [cf_app] at h
    rcases look_app h with h | h
    · have m := PySem.mem_of_lookup h
      exact .inl ⟨m, (ok.empty _ _ m).2⟩
    · rw [hcl] at h
      by_cases e : x = ("__class__" : Str)
      · subst e
        have e2 : some cc = some c := h
        exact .inr ⟨rfl, (Option.some.inj e2).symm⟩
      · have h2 : (x == ("__class__" : Str)) = false := beq_false_of_ne e
        rw [List.lookup_cons, h2] at h
        cases h
  refine ⟨⟨e0.mod, S.kind, rfl, rfl, Nat.le_refl _, fun x y c h1 h2 => ?_, fun y hy => ?_, fun y c z h => ?_, fun _ => hd, Around.frames_deeper e0.frames, .inr ⟨rfl, rfl⟩, fun b z => absurd z (noA b), e0.bs, e0.bsz, fun b _ _ => noA b,
      fun b z => absurd z (noA b), e0.funs, e0.frf⟩,
    rfl, e0.bare, Un.kept kp, ⟨_, hns, fun i y v e1 e2 e3 => ?_⟩, fun y c e => ?_, e0.hok.fresh (Nat.le_refl _), fun y c e => ?_, fun q hq => absurd (show q ∈ ([] : List (Addr × Obj)) ++ [] from hq) (by simp), e0.hok.kept kp, ?_⟩
  · rcases two h1 with ⟨a1, a2⟩ | ⟨a1, a2⟩ <;> rcases two h2 with ⟨b1, b2⟩ | ⟨b1, b2⟩
    · exact name_of_addr ok.apart a1 b1
    · have h9 : s.heap.objs.size + 1 ≤ cc := b2 ▸ a2
      exact absurd (Nat.lt_trans hlt (Nat.lt_of_succ_le h9)) (Nat.lt_irrefl _)
    · have h9 : s.heap.objs.size + 1 ≤ cc := a2 ▸ b2
      exact absurd (Nat.lt_trans hlt (Nat.lt_of_succ_le h9)) (Nat.lt_irrefl _)
    · rw [a1, b1]
  · have hy : F.scope.names.lookup y = some .cell ∨ F.scope.names.lookup y = some .free := hy
    rcases hy with hy | hy
    · exact cell_has2 hy
    · have e := S.free _ (PySem.mem_of_lookup hy) rfl
      have e' : y = ("__class__" : Str) := e
      subst e'
      show ∃ c, (cellsFrom (s.heap.objs.size + 1) F.scope.names F.cl).lookup ("__class__" : Str) = some c
      rw [cf_app, List.lookup_append]
      cases h0 : (cellsFrom (s.heap.objs.size + 1) F.scope.names []).lookup ("__class__" : Str) with
      | some c => exact ⟨c, rfl⟩
      | none =>
        rw [hcl]
        exact ⟨cc, rfl⟩
  · rcases two h with ⟨a1, a2⟩ | ⟨a1, a2⟩
    · show s.heap.objs.size ≤ c
      omega
    · have z : (!decide (y = ("__class__" : Str))) = true := z
      rw [a1] at z
      simp at z
  · have e1 : N[i]? = some y := e1
    unfold startF at e2
    have hi : i < ps.length := by
      by_cases h1 : i < ps.length
      · exact h1
      · rw [List.getElem?_append_right (by rw [List.length_map]; omega), List.length_map] at e2
        by_cases h2 : i < ps.length + 1
        · have e3 : i - vs.length = 0 := by omega
          rw [e3] at e2
          cases e2
        · rw [List.getElem?_append_right (by show 1 ≤ i - vs.length; omega), List.getElem?_replicate] at e2
          split at e2 <;> cases e2
    have hq : (ps ++ [("__class__" : Str)])[i]? = some y := by
      rw [← S.pre, List.getElem?_take_of_lt (by omega)]
      exact e1
    rw [List.getElem?_append_left hi] at hq
    rw [List.getElem?_append_left (by rw [List.length_map]; omega), List.getElem?_map] at e2
    have ha : vs[i]? = some v := by
      cases e : vs[i]? with
      | none => rw [e] at e2; cases e2
      | some a => rw [e] at e2; cases e2; rfl
    obtain ⟨u, hu, rv⟩ := r.get ha
    have ndP : ps.Nodup := by
      have q := S.nd.sublist (List.take_sublist (ps.length + 1) N)
      rw [S.pre] at q
      exact (List.nodup_append.mp q).1
    exact ⟨u, rv, .inl ⟨S.par y (List.mem_of_getElem? hq), zip_look ndP hq hu⟩⟩
  · rcases two e with ⟨a1, a2⟩ | ⟨a1, a2⟩
    · exact ⟨_, (ok.empty _ _ a1).1⟩
    · obtain ⟨v, z⟩ := hcc
      rw [a2]
      exact ⟨v, cellK z⟩
  · rcases two e with ⟨a1, a2⟩ | ⟨a1, a2⟩
    · exact e0.hok.fresh (by omega)
    · rw [a2]
      exact hH
  · unfold startF
    show _ = N.length
    rw [List.length_append, List.length_append, List.length_map, List.length_replicate]
    simp only [List.length_cons, List.length_nil]
    omega
/-- THE RULE -/
theorem fn_atC (lk : K.lookup f = some ⟨oc, od, .func (PySem.W.fnX F.name F.qual F.params F.body F.scope F.cl .none kV doc pm an (.ref F.c) ct), osl⟩) (hcd : PySem.W.codeIn K (.ref F.c) F.qual = true) (hcl : F.cl = [(("__class__" : Str), cc)])
    (hcc : ∃ cl cld csl, K.lookup cc = some ⟨cl, cld, .cell (some (.ref D)), csl⟩) (S : CScope N ps F.scope)
    (len : ∀ vs H Q E, sp vs H Q E → vs.length = ps.length)
    (hbody : ∀ (A : Around) (outer : List Env) (s : Shared) (H : Hp) (vs : List V) (Q : VK) (E : XK), Room k (A.deeper (envC F f s.heap.objs.size)) → sp vs H Q E →
      ∃ t : TS, PSsa (cxC CX P w K mg base N F f A outer s H E) F.body F.body t ∧ t { nx := fun _ H' => Q .non H', rt := Q } (startF N vs [none]) H) :
    FnOk P w K mg base CX (k + 1) f (PySem.W.fnX F.name F.qual F.params F.body F.scope F.cl .none kV doc pm an (.ref F.c) ct) ps sp := by
  refine ⟨len, fun A outer s H args us vs Q E hr e0 hb r hsp => ?_⟩
  have hl := len _ _ _ _ hsp
  have KX : K.In s.heap := e0.mod.kin.keeps fun b o e => (e0.bs b o e).1
  have lim : s.heap.NoLimit := e0.mod.nolimit.keeps fun b o e => (e0.bs b o e).1
  obtain ⟨cl, cld, csl, hcc⟩ := hcc
  refine codeAny_call_function (fd := PySem.W.fnX F.name F.qual F.params F.body F.scope F.cl .none kV doc pm an (.ref F.c) ct) (body := F.body) hr.depth (KX _ _ lk) rfl S.co S.gen rfl (PySem.W.codeRec_of KX hcd) (hb _ _ _ _ ?_)
  refine newEnv_own (fun x hx => S.par x.1 (List.of_mem_zip hx).1) S.kind fun h₁ tk hns kp ok => ?_
  refine ⟨lim.keeps kp, ks_codeAny_funcAt ?_⟩
  show _root_.PySem.wpAt (model P w) (A.deeper (envC F f s.heap.objs.size)) (.func F.body (envC F f s.heap.objs.size)) (execs F.body (envC F f s.heap.objs.size)) _ _ _
  obtain ⟨t, ps', hq⟩ := hbody A outer s H vs Q E (hr.deeper _) hsp
  have I : Inv (cxC CX P w K mg base N F f A outer s H E) [] (startF N vs [none]) H { s with heap := h₁, toks := tk } := inv_startC S hr.hd e0 hl r hcl ⟨_, ⟨_, KX _ _ hcc, rfl⟩⟩ (e0.bs _ _ (e0.mod.kin _ _ hcc)).2 (Heap.lt_size (KX _ _ hcc)) hns kp ok
  have fin : ∀ {s' : Shared} {σ' : L2.St} {H' : Hp} {v : V} {u : Value}, Inv (cxC CX P w K mg base N F f A outer s H E) [] σ' H' s' → L2.RelV v u → Q v H' → CE outer P w H s Q u s' :=
    fun {s' σ' H' v u} J rv q => ⟨v, H', J.os, J.bare, J.base, J.hok, rv, q⟩
  refine ks_wpAt_mono (ps'.run [] _ (startF N vs [none]) H _ I hq) (fun fl s' hs => ?_) fun e s' hs => hs
  cases fl with
  | ret u =>
    obtain ⟨v, σ', H', J, rv, q⟩ := hs
    exact fin J rv q
  | next =>
    obtain ⟨σ', H', J, q⟩ := hs
    exact fin (v := V.non) (u := Value.none) J rfl q
  | brk =>
    obtain ⟨_, _, _, q⟩ := hs
    exact False.elim q
  | cont =>
    obtain ⟨_, _, _, q⟩ := hs
    exact False.elim q
end
end SupC
/-! sorted(xs), xs a list of data (alike tuples, ..), any length: the stable sort by the order of data. -/
namespace So
open PySem PySem.Spec PyProof.Rows L2 Bx TL Dx PySem.W
section
variable {X : Cx} {pins : List (Addr × Obj)} {σ : L2.St} {H : Hp} {s : Shared}
theorem each_of (I : Inv X pins σ H s) : ∀ {vs : List V} {us : List Value} {ds : List PyData}, DpAll X.K H vs ds → Vals vs us → EachIs (fun u d => (∃ v, Dp X.K H v d ∧ L2.RelV v u) ∧ ∃ as, Reads s.heap u d as) us ds
  | [], [], [], _, _ => .nil
  | v :: vs, u :: us, d :: ds, h, r => by
    cases h with
    | cons h1 h2 =>
      cases r with
      | cons r1 r2 => exact .cons ⟨⟨v, h1, r1⟩, Dp.reads I d v u h1 r1⟩ (each_of I h2 r2)
  | [], _ :: _, _, _, r => by cases r
  | _ :: _, [], _, _, r => by cases r
  | [], [], _ :: _, h, _ => by cases h
  | _ :: _, _ :: _, [], h, _ => by cases h
theorem each_back {K : Frag} : ∀ {us : List Value} {ds : List PyData}, EachIs (fun u d => ∃ v, Dp K H v d ∧ L2.RelV v u) us ds → ∃ vs, Vals vs us ∧ DpAll K H vs ds
  | _, _, .nil => ⟨[], .nil, .nil⟩
  | _, _, .cons ⟨v, h, r⟩ t => by
    obtain ⟨vs, r2, h2⟩ := each_back t
    exact ⟨v :: vs, .cons r r2, .cons h h2⟩
def dle : PyData → PyData → Bool := dataLe false id
def rSortD (K : Frag) : List V → Hp → VK → Prop := fun xs H Q => ∃ (a : Addr) (vs : List V) (ds : List PyData), xs = [V.ref a] ∧ SqL K H a vs ∧ DpAll K H vs ds ∧ AllAlike ds ∧ Sortable ds ∧ ds.length ≤ sizeLine ∧ (∀ d ∈ ds, d.depth ≤ 60) ∧
  ∀ (ys : List V) (p : Addr), H p = none → DpAll K H ys (ds.mergeSort dle) → Q (.ref p) (upd H p (.lst ys))
theorem cr_sortD (hu : X.A.units + 65 < cLine) : CallR X (.builtin "sorted") (rSortD X.K) := by
  intro pins s σ H xs us Q I r h
  obtain ⟨a, vs, ds, rfl, hs, hd, hal, hso, hz, hdp, q⟩ := h
  cases r with
  | cons r1 r2 =>
    cases r2
    cases r1
    obtain ⟨its, rv, hl, _⟩ := I.list hs
    have ea := each_of I hd rv
    refine sorted_data (bs := ds) (enc := id) (R := fun u d => ∃ v, Dp X.K H v d ∧ L2.RelV v u) hl.isList (ea.mono fun _ _ z => z.1) (ea.mono fun _ _ z => z.2) (by rw [List.map_id]; exact hal) (by rw [List.map_id]; exact hso) hz (fun d hd => ?_) fun out hlen eo => ?_
    · have := hdp d hd
      show X.A.units + 2 + d.depth < cLine
      omega
    · obtain ⟨ys, ry, dy⟩ := each_back eo
      obtain ⟨ep, he'⟩ := PyProof.Rows.sortedAll_at s.heap its out.toArray
      have hyl : ys.length = ds.length := by rw [ry.length, hlen]
      exact ⟨.ref _, upd H (s.heap.objs.size + 1) (.lst ys), I.laid (t' := s.toks) (fun _ _ => PyProof.Rows.sortedAll_old) (Nat.le_succ _) ⟨by rw [hyl]; exact hz, out, ep, ry, by simpa using he'⟩, rfl, q ys _ (I.hok.fresh (Nat.le_succ _)) dy⟩
end
end So
/-! Sets of nested tuples of ints and texts, fewer than 64 members: set(xs), sorted(..), `in`. -/
namespace Sd
open PySem PySem.Spec PyProof.Rows L2
abbrev NK := PySem.NestedKey
/-- the tuple at a is the key k -/
def Is8 (h : PySem.Heap) (k : NK) (a : Addr) : Prop := NestedIs h k (.ref a) ∧ k.depth ≤ 8
def ClsAt (P : Program) (w : World) (n : Nat) (s : Shared) (v : Value) : Prop := ∀ (A : Around) (E : Value → Shared → Prop) (Q : Bool → Shared → Prop), Q false s → wpAny (model P w) A (ofAClassStatement n v) Q E s
def HbvAt (P : Program) (w : World) (n : Nat) (s : Shared) (v : Value) : Prop := ∀ (A : Around) (E : Value → Shared → Prop) (Q : Bool → Shared → Prop), (∀ b, Q b s) → wpAny (model P w) A (hashByValue n v) Q E s
section
variable {P : Program} {w : World} {A : Around} {E : Value → Shared → Prop} {s : Shared}
theorem cls_pure {n : Nat} {v : Value} (e : ofAClassStatement n v = pure false) : ClsAt P w n s v := fun A E Q q => by
  rw [e]
  exact wpAny_pure q
theorem hbv_pure {n : Nat} {v : Value} {b : Bool} (e : hashByValue n v = pure b) : HbvAt P w n s v := fun A E Q q => by
  rw [e]
  exact wpAny_pure (q b)
theorem cls_tuple {n m : Nat} {a : Addr} {o : Obj} {vs : Array Value} (ho : s.heap.get? a = some o) (hc : o.cls = .type "tuple") (hd : o.data = .seq vs m) (all : ∀ v ∈ vs.toList, ClsAt P w n s v) : ClsAt P w (n + 1) s (.ref a) := fun A E Q q => by
  unfold ofAClassStatement
  refine wpAny_bind (wpAny_typeOf (show s.TypeIs (.ref a) "tuple" from ⟨o, ho, hc⟩) ?_)
  simp only [show (("tuple" : String) == "tuple") = true by decide, if_true, pure_bind, Bool.not_true, Bool.false_eq_true, if_false]
  refine wpAny_bind (wpAny_seqItems ho hd (wpAny_bind ?_))
  rw [← Array.forIn_toList]
  refine wpAny_forIn_list _ (fun left r s' => s' = s ∧ r.1 = none ∧ ∀ v ∈ left, ClsAt P w n s v) _ ?_ ?_ _ _ ⟨rfl, rfl, all⟩
  · rintro v left r s' ⟨rfl, e, rest⟩
    refine wpAny_bind (rest v (List.mem_cons_self ..) _ _ _ ?_)
    simp only [Bool.false_eq_true, if_false]
    exact wpAny_pure ⟨rfl, rfl, fun u hu => rest u (List.mem_cons_of_mem _ hu)⟩
  · rintro ⟨r, x⟩ s' ⟨rfl, e, _⟩
    simp only at e
    subst e
    exact wpAny_pure q
theorem hbv_tuple {n m : Nat} {a : Addr} {o : Obj} {vs : Array Value} (ho : s.heap.get? a = some o) (hc : o.cls = .type "tuple") (hd : o.data = .seq vs m) (all : ∀ v ∈ vs.toList, HbvAt P w n s v) : HbvAt P w (n + 1) s (.ref a) := fun A E Q q => by
  unfold hashByValue
  refine wpAny_bind (wpAny_specialOf (show s.TypeIs (.ref a) "tuple" from ⟨o, ho, hc⟩) F.slot_tuple_hash.lookup ?_)
  show wpAny _ _ (seqItems? (.ref a) >>= _) _ _ s
  refine wpAny_bind (wpAny_seqItems ho hd (wpAny_bind ?_))
  show wpAny _ _ (forIn vs _ _) _ _ s
  rw [← Array.forIn_toList]
  refine wpAny_forIn_list _ (fun left r s' => s' = s ∧ r.1 = none ∧ ∀ v ∈ left, HbvAt P w n s v) _ ?_ ?_ _ _ ⟨rfl, rfl, all⟩
  · rintro v left r s' ⟨rfl, e, rest⟩
    refine wpAny_bind (rest v (List.mem_cons_self ..) _ _ _ fun b => ?_)
    cases b with
    | true =>
      simp only [Bool.not_true, Bool.false_eq_true, if_false]
      exact wpAny_pure ⟨rfl, rfl, fun u hu => rest u (List.mem_cons_of_mem _ hu)⟩
    | false =>
      simp only [Bool.not_false, if_true]
      exact wpAny_pure (wpAny_pure (q false))
  · rintro ⟨r, x⟩ s' ⟨rfl, e, _⟩
    simp only at e
    subst e
    exact wpAny_pure (q true)
mutual
theorem cls_key : ∀ (k : NK) (v : Value) (n : Nat), NestedIs s.heap k v → k.depth ≤ n → ClsAt P w n s v
  | .none, _, n, x, _ => by
    cases x
    exact cls_pure (by cases n <;> rfl)
  | .num i, _, n, x, _ => by
    cases x <;> exact cls_pure (by cases n <;> rfl)
  | .text y, _, n, x, _ => by
    cases x
    exact cls_pure (by cases n <;> rfl)
  | .tup ks, _, n, x, hn => by
    cases x with
    | tup hg hc hd hk =>
      simp only [NestedKey.depth] at hn
      cases n with
      | zero => omega
      | succ n => exact cls_tuple hg hc hd (cls_keys ks _ n hk (by omega))
theorem cls_keys : ∀ (ks : List NK) (vs : List Value) (n : Nat), NestedAll s.heap ks vs → NestedKey.depthAll ks ≤ n → ∀ v ∈ vs, ClsAt P w n s v
  | [], _, n, x, _, v, hv => by
    cases x
    cases hv
  | k :: ks, _, n, x, hn, v, hv => by
    cases x with
    | cons x1 x2 =>
      simp only [NestedKey.depthAll] at hn
      rcases List.mem_cons.mp hv with e | hv
      · rw [e]
        exact cls_key k _ n x1 (by omega)
      · exact cls_keys ks _ n x2 (by omega) v hv
end
mutual
theorem hbv_key : ∀ (k : NK) (v : Value) (n : Nat), NestedIs s.heap k v → k.depth ≤ n → HbvAt P w n s v
  | .none, _, n, x, _ => by
    cases x
    exact hbv_pure (b := true) (by cases n <;> rfl)
  | .num i, _, n, x, _ => by
    cases x <;> exact hbv_pure (b := true) (by cases n <;> rfl)
  | .text y, _, n, x, _ => by
    cases x
    exact hbv_pure (b := false) (by cases n <;> rfl)
  | .tup ks, _, n, x, hn => by
    cases x with
    | tup hg hc hd hk =>
      simp only [NestedKey.depth] at hn
      cases n with
      | zero => omega
      | succ n => exact hbv_tuple hg hc hd (hbv_keys ks _ n hk (by omega))
theorem hbv_keys : ∀ (ks : List NK) (vs : List Value) (n : Nat), NestedAll s.heap ks vs → NestedKey.depthAll ks ≤ n → ∀ v ∈ vs, HbvAt P w n s v
  | [], _, n, x, _, v, hv => by
    cases x
    cases hv
  | k :: ks, _, n, x, hn, v, hv => by
    cases x with
    | cons x1 x2 =>
      simp only [NestedKey.depthAll] at hn
      rcases List.mem_cons.mp hv with e | hv
      · rw [e]
        exact hbv_key k _ n x1 (by omega)
      · exact hbv_keys ks _ n x2 (by omega) v hv
end
/-- looking such a key up shows nothing -/
theorem unseen {k : NK} {b : Addr} {Q : Bool → Shared → Prop} (hk : Is8 s.heap k b) {ys : List Value} (hy : ∀ y ∈ ys, ∃ k' c, y = Value.ref c ∧ Is8 s.heap k' c) (q : Q false s) : wpAny (model P w) A (searchCouldBeSeen (.ref b) ys) Q E s := by
  unfold searchCouldBeSeen
  refine wpAny_bind (wpAny_forIn_list _ (fun left r s' => s' = s ∧ r.1 = none ∧ ∀ y ∈ left, ∃ k' c, y = Value.ref c ∧ Is8 s.heap k' c) _ ?_ ?_ _ _ ⟨rfl, rfl, hy⟩)
  · rintro v left r s' ⟨rfl, e, all⟩
    obtain ⟨k', c, rfl, hc⟩ := all v (List.mem_cons_self ..)
    have rest : ∀ y ∈ left, ∃ k' c, y = Value.ref c ∧ Is8 s'.heap k' c := fun y hy => all y (List.mem_cons_of_mem _ hy)
    dsimp only
    by_cases hv : (b == c || (carriedByValue (.ref b) && carriedByValue (.ref c))) = true
    · refine wp_if_pos hv ?_
      exact wpAny_pure ⟨rfl, rfl, rest⟩
    · refine wp_if_neg hv ?_
      refine wpAny_bind ((nestedKind P w).quiet (show (nestedKind P w).is s'.heap k b from hk) ?_)
      simp only [Bool.not_true, Bool.false_eq_true, if_false]
      refine wpAny_bind ((nestedKind P w).quiet (show (nestedKind P w).is s'.heap k' c from hc) ?_)
      simp only [Bool.not_true, Bool.false_eq_true, if_false]
      refine wpAny_bind (cls_key k _ 8 hk.1 hk.2 _ _ _ ?_)
      simp only [Bool.false_eq_true, if_false]
      refine wpAny_bind (cls_key k' _ 8 hc.1 hc.2 _ _ _ ?_)
      simp only [Bool.false_eq_true, if_false]
      exact wpAny_pure ⟨rfl, rfl, rest⟩
  · rintro ⟨r, x⟩ s' ⟨rfl, e, _⟩
    simp only at e
    subst e
    exact wpAny_pure q
end
end Sd
namespace Sd
open PySem PySem.Spec PyProof.Rows L2
/-! ### the table -/
abbrev rowN (w : World) (p : Addr × NK) : Int × Value := (p.2.hash w, Value.ref p.1)
structure Ts (w : World) (h : PySem.Heap) (a : Addr) (L : List (Addr × NK)) (es : Array (Int × Value)) (ep : Nat) (t : SetTable) : Prop where
  obj : ∃ o, h.get? a = some o ∧ o.ExactSet ∧ o.data = .set es ep t
  row : es.toList = L.map (rowN w)
  tab : TabOk t (L.map fun p => p.2.hash w)
  one : (L.map (·.2)).Nodup
  mem : ∀ p ∈ L, Is8 h p.2 p.1
  led : w.params.followText "set-order" = true ∨ t.led = true
  free : L.length * 5 < t.mask * 3
  few : L.length < 64
/-- where the search for the hash h begins -/
abbrev beg (t : SetTable) (h : Int) : SetTable.Probe := runAt t.mask (SetTable.bits h % (t.mask + 1)) (SetTable.bits h)
section
variable {P : Program} {w : World} {A : Around} {E : Value → Shared → Prop} {s : Shared} {a : Addr} {L : List (Addr × NK)} {es : Array (Int × Value)} {ep : Nat} {t : SetTable}
theorem Ts.num (R : Ts w s.heap a L es ep t) : es.size = L.length := by
  have z := congrArg List.length R.row
  rwa [Array.length_toList, List.length_map] at z
theorem Ts.fit (R : Ts w s.heap a L es ep t) : t.fits es.size = true := by
  have z1 := R.tab.sz
  have z2 := R.num
  have z3 := R.free
  rw [List.length_map] at z1
  unfold SetTable.fits SetTable.fill
  rw [R.tab.dm, Bool.and_eq_true, beq_iff_eq, decide_eq_true_eq]
  show t.place.size = es.size ∧ t.place.size + 0 ≤ t.mask
  omega
theorem Ts.at (R : Ts w s.heap a L es ep t) {i : Nat} {p : Addr × NK} (e : L[i]? = some p) : es[i]? = some (rowN w p) := by
  rw [← Array.getElem?_toList, R.row, List.getElem?_map, e]
  rfl
theorem Ts.nogw (R : Ts w s.heap a L es ep t) : ¬ t.gaveWay = true := by
  unfold SetTable.gaveWay
  rw [mask_odd R.tab.mok]
  exact Bool.false_ne_true
theorem beg_quiet (m : Nat) : ∀ (n : Nat) (p : SetTable.Probe), p.dummy = none → (nth m p n).dummy = none
  | 0, _, h => h
  | n + 1, p, h => beg_quiet m n (adv m p) (by
    unfold adv
    split <;> exact h)
/-- from step c of the way on: found, or the first empty slot -/
theorem look_from (R : Ts w s.heap a L es ep t) {x : Addr} {k : NK} (hx : Is8 s.heap k x) (hu : A.units + 8 < cLine) {K : Nat} (K1 : K < 10 * SetTable.turns t.mask) (K2 : way t.mask (k.hash w) K ∉ t.place.toList) (K3 : ∀ c, c < K → way t.mask (k.hash w) c ∈ t.place.toList)
    {Q : SetFound → Shared → Prop} (yes : k ∈ L.map (·.2) → Q (.there none) s) (no : k ∉ L.map (·.2) → Q (.free (way t.mask (k.hash w) K) false) s) :
    ∀ (fuel c : Nat) (stand : Option SetTable.Probe), stand.getD (t.probeStart (k.hash w)) = nth t.mask (beg t (k.hash w)) c → c ≤ K → K - c < fuel →
      (∀ (i : Nat) p, L[i]? = some p → p.2 = k → ∃ d, c ≤ d ∧ d < K ∧ t.place.toList[i]? = some (way t.mask (k.hash w) d)) → wpAny (model P w) A (setSearchFrom a (.ref x) (k.hash w) true fuel stand) Q E s := by
  intro fuel
  induction fuel with
  | zero => exact fun c _ _ _ lt _ => absurd lt (Nat.not_lt_zero _)
  | succ fuel ih =>
    intro c stand est cK lt here
    obtain ⟨o, ho, hex, hd⟩ := R.obj
    have sum : ∀ q, nth t.mask (nth t.mask (beg t (k.hash w)) c) q = nth t.mask (beg t (k.hash w)) (c + q) := fun q => (nth_add t.mask c _ q).symm
    have wy : ∀ q, (nth t.mask (nth t.mask (beg t (k.hash w)) c) q).j = way t.mask (k.hash w) (c + q) := fun q => congrArg SetTable.Probe.j (sum q)
    have hsh : ∀ (i : Nat) p, L[i]? = some p → (es[i]?.map (·.1)).getD 0 = p.2.hash w := fun i p hp => by
      rw [R.at hp]
      rfl
    have met := go_spec t R.tab.ris R.tab.dm (fun i => (es[i]?.map (·.1)).getD 0) (k.hash w) (10 * SetTable.turns t.mask) (K - c) _ (beg_quiet t.mask c (beg t (k.hash w)) rfl) (by omega) (fun q hq => by rw [wy]; exact K3 _ (by omega)) (by rw [wy, show c + (K - c) = K by omega]; exact K2)
    rw [setSearchFrom_succ]
    refine wpAny_bind (wpAny_setState_of ho hd R.fit ?_)
    dsimp only
    refine wp_if_neg R.nogw ?_
    try refine wpAny_bind (wpAny_pure ?_)
    rcases met with ⟨q, i, hq, hi, hh, hno, pr⟩ | ⟨hno, pr⟩
    · have pr2 : t.probe (fun i => (es[i]?.map (·.1)).getD 0) (k.hash w) (stand.getD (t.probeStart (k.hash w))) = some (.candidate (way t.mask (k.hash w) (c + q)) i (nth t.mask (beg t (k.hash w)) (c + (q + 1)))) := by
        rw [est, ← wy, ← sum]
        exact pr
      rw [pr2]
      dsimp only
      rw [wy] at hi
      have iL : i < L.length := by
        have z1 := (List.getElem?_eq_some_iff.mp hi).1
        have z2 := R.tab.sz
        rw [List.length_map] at z2
        rw [Array.length_toList] at z1
        omega
      obtain ⟨p, hp⟩ : ∃ p, L[i]? = some p := ⟨_, List.getElem?_eq_getElem iL⟩
      have pm : p ∈ L := List.mem_of_getElem? hp
      have go : wpAny (model P w) A (searchRest a (.ref x) (k.hash w) true fuel es t (way t.mask (k.hash w) (c + q)) i (nth t.mask (beg t (k.hash w)) (c + (q + 1)))) Q E s := by
        unfold searchRest
        rw [R.at hp]
        dsimp only
        refine wpAny_bind (wpAny_holding ((nestedKind P w).eqBool (show A.units + 8 < cLine from hu) (show (nestedKind P w).is s.heap p.2 p.1 from R.mem p pm) (show (nestedKind P w).is s.heap k x from hx) ?_))
        refine wpAny_bind (wpAny_setState_of ho hd R.fit ?_)
        dsimp only
        by_cases e : p.2 = k
        · refine wp_if_pos (by simp [e]) ?_
          exact wpAny_pure (yes (List.mem_map.mpr ⟨p, pm, e⟩))
        · refine wp_if_neg (by simp [e]) ?_
          try refine wpAny_bind (wpAny_pure ?_)
          have live : t.slot (way t.mask (k.hash w) (c + q)) = .live i := slot_live R.tab.ris hi
          rw [sameMem]
          dsimp only
          simp only [if_true, live, R.at hp]
          refine wpAny_bind (wpAny_isSame_ref_self (wpAny_bind (wpAny_pure ?_)))
          simp only [if_true]
          refine wp_if_neg (by simp [e]) ?_
          refine ih (c + (q + 1)) _ rfl (by omega) (by omega) fun i' p' hp' e' => ?_
          obtain ⟨d, d1, d2, d3⟩ := here i' p' hp' e'
          refine ⟨d, Nat.not_lt.mp fun lt' => ?_, d2, d3⟩
          rcases Nat.lt_or_ge d (c + q) with z | z
          · exact hno (d - c) i' (by omega) (by rw [wy, show c + (d - c) = d by omega]; exact d3) ((hsh i' p' hp').trans (by rw [e']))
          · have ed : d = c + q := by omega
            rw [ed] at d3
            have live2 := slot_live R.tab.ris d3
            rw [live] at live2
            injection live2 with ei
            rw [← ei, hp] at hp'
            exact e (by rw [Option.some.inj hp']; exact e')
      by_cases hl : t.led = true
      · refine wp_if_neg (by simp [hl]) ?_
        try refine wpAny_bind (wpAny_pure ?_)
        exact go
      · refine wp_if_pos (by simp [hl]) ?_
        refine wpAny_bind (unseen hx (fun y hy => ?_) ?_)
        · obtain ⟨e, he, rfl⟩ := List.mem_map.mp hy
          have e1 : e ∈ es ∧ e.1 = k.hash w := by simpa using he
          have e2 : e ∈ es.toList := by simpa using e1.1
          rw [R.row] at e2
          obtain ⟨p', hp', rfl⟩ := List.mem_map.mp e2
          exact ⟨p'.2, p'.1, rfl, R.mem p' hp'⟩
        · refine wp_if_neg Bool.false_ne_true ?_
          try refine wpAny_bind (wpAny_pure ?_)
          exact go
    · have pr2 : t.probe (fun i => (es[i]?.map (·.1)).getD 0) (k.hash w) (stand.getD (t.probeStart (k.hash w))) = some (.empty (way t.mask (k.hash w) K) none) := by
        have z := wy (K - c)
        rw [show c + (K - c) = K by omega] at z
        rw [est, ← z]
        exact pr
      rw [pr2]
      dsimp only
      refine wpAny_pure (no fun hm => ?_)
      obtain ⟨p, pm, e⟩ := List.mem_map.mp hm
      obtain ⟨i, hp⟩ := List.mem_iff_getElem?.mp pm
      obtain ⟨d, d1, d2, d3⟩ := here i p hp e
      exact hno (d - c) i (by omega) (by rw [wy, show c + (d - c) = d by omega]; exact d3) ((hsh i p hp).trans (by rw [e]))
theorem look (R : Ts w s.heap a L es ep t) {x : Addr} {k : NK} (hx : Is8 s.heap k x) (hu : A.units + 8 < cLine) {Q : SetFound → Shared → Prop} (yes : k ∈ L.map (·.2) → Q (.there none) s)
    (no : ∀ K, k ∉ L.map (·.2) → way t.mask (k.hash w) K ∉ t.place.toList → (∀ c, c < K → way t.mask (k.hash w) c ∈ t.place.toList) → Q (.free (way t.mask (k.hash w) K) false) s) : wpAny (model P w) A (setSearch a (.ref x) (k.hash w) true) Q E s := by
  have z := R.free
  obtain ⟨K, K1, K2, K3⟩ := R.tab.first (by rw [List.length_map]; omega) (k.hash w)
  have small : 10 * SetTable.turns t.mask ≤ 1500 := by
    unfold SetTable.turns
    rcases R.tab.mok with e | e | e <;> omega
  unfold setSearch
  refine look_from R hx hu K1 K2 K3 yes (fun n => no K n K2 K3) 100000 0 none rfl (Nat.zero_le _) (by omega) fun i p hp e => ?_
  have hi : (L.map fun p => p.2.hash w)[i]? = some (k.hash w) := by
    rw [List.getElem?_map, hp, ← e]
    rfl
  have il : i < t.place.toList.length := by
    have z1 := (List.getElem?_eq_some_iff.mp hp).1
    have z2 := R.tab.sz
    rw [List.length_map] at z2
    rw [Array.length_toList]
    omega
  obtain ⟨j, hj⟩ : ∃ j, t.place.toList[i]? = some j := ⟨_, List.getElem?_eq_getElem il⟩
  obtain ⟨d, d1, d2⟩ := R.tab.before K2 hi hj
  exact ⟨d, Nat.zero_le _, d1, by rw [hj, d2]⟩
end
end Sd
namespace Sd
open PySem PySem.Spec PyProof.Rows L2
/-! ### the table laid anew; one key more -/
theorem range_get {α : Type} (L : List α) : ∀ n, n ≤ L.length → (List.range n).filterMap (fun i => L[i]?) = L.take n
  | 0, _ => rfl
  | n + 1, hn => by
    obtain ⟨x, e⟩ : ∃ x, L[n]? = some x := ⟨_, List.getElem?_eq_getElem hn⟩
    rw [List.range_succ, List.filterMap_append, range_get L n (Nat.le_of_succ_le hn), List.take_add_one, e]
    congr 1
    rw [List.filterMap_cons_some e]
    rfl
section
variable {P : Program} {w : World} {A : Around} {E : Value → Shared → Prop} {s : Shared} {a : Addr} {L : List (Addr × NK)} {es : Array (Int × Value)} {ep : Nat} {t : SetTable}
theorem ordered {order : Array Nat} (row : es.toList = L.map (rowN w)) (pm : order.toList.Perm (List.range L.length)) :
    ∃ M : List (Addr × NK), (order.filterMap (es[·]?)).toList = M.map (rowN w) ∧ M.Perm L ∧ (M.map fun p => p.2.hash w) = order.toList.map fun i => (es.map (·.1)).getD i 0 := by
  have ent : ∀ i : Nat, es[i]? = (L[i]?).map (rowN w) := fun i => by rw [← Array.getElem?_toList, row, List.getElem?_map]
  refine ⟨order.toList.filterMap (fun i => L[i]?), ?_, ?_, ?_⟩
  · rw [List.map_filterMap]
    have z : (order.filterMap (es[·]?)).toList = order.toList.filterMap (fun i => es[i]?) := by simp
    rw [z]
    congr 1
    funext i
    exact ent i
  · have z := pm.filterMap (fun i => L[i]?)
    rwa [range_get L L.length (Nat.le_refl _), List.take_length] at z
  · have all : ∀ i ∈ order.toList, i < L.length := fun i hi => List.mem_range.mp (pm.mem_iff.mp hi)
    revert all
    generalize order.toList = l
    intro all
    induction l with
    | nil => rfl
    | cons i l ih =>
      obtain ⟨p, hp⟩ : ∃ p, L[i]? = some p := ⟨_, List.getElem?_eq_getElem (all i (List.mem_cons_self ..))⟩
      have e1 : (es.map (·.1)).getD i 0 = p.2.hash w := by
        have z : (es.map (·.1))[i]? = some (p.2.hash w) := by
          rw [Array.getElem?_map, ent i, hp]
          rfl
        simp [Array.getD_eq_getD_getElem?, z]
      rw [List.filterMap_cons_some hp, List.map_cons, List.map_cons, ih fun j hj => all j (List.mem_cons_of_mem _ hj), e1]
theorem is8_but {h h' : PySem.Heap} {k : NK} {b : Addr} {o : Obj} (x : Is8 h k b) (ho : h.get? a = some o) (hd : o.data = .set es ep t) (sb : Heap.SameBut a h h') : Is8 h' k b :=
  ⟨NestedIs.at (fun c oc vs n hc hv => by
    refine (sb.2 c fun e => ?_).trans hc
    rw [e, ho] at hc
    cases hc
    rw [hd] at hv
    cases hv) k _ x.1, x.2⟩
theorem is8_keep {h h' : PySem.Heap} {k : NK} {b : Addr} (x : Is8 h k b) (kp : ∀ c o, h.get? c = some o → h'.get? c = some o) : Is8 h' k b := ⟨NestedIs.at (fun c o _ _ hc _ => kp c o hc) k _ x.1, x.2⟩
theorem relay {o : Obj} (ho : s.heap.get? a = some o) (hex : o.ExactSet) (hd : o.data = .set es ep t) (row : es.toList = L.map (rowN w)) (hsz : t.place.size = es.size) (hdm : t.dummies = #[]) (hfl : es.size ≤ t.mask) (one : (L.map (·.2)).Nodup) (mem : ∀ p ∈ L, Is8 s.heap p.2 p.1)
    (led : w.params.followText "set-order" = true ∨ t.led = true) (few : L.length < 64) {want M : Nat} (hw : SetTable.sizeAbove want - 1 = M) (hM : MaskOk M) (h128 : SetTable.sizeAbove want ≤ 128) (hn : L.length * 5 < M * 3) {Q : Unit → Shared → Prop}
    (q : ∀ h' L' es' ep' t', Heap.SameBut a s.heap h' → Ts w h' a L' es' ep' t' → L'.Perm L → Q () { s with heap := h' }) : wpAny (model P w) A (setRelay a want) Q E s := by
  have num : es.size = L.length := by
    have z := congrArg List.length row
    rwa [Array.length_toList, List.length_map] at z
  have fit : t.fits es.size = true := by
    unfold SetTable.fits SetTable.fill
    rw [hdm, Bool.and_eq_true, beq_iff_eq, decide_eq_true_eq]
    exact ⟨hsz, by show t.place.size + 0 ≤ t.mask; omega⟩
  obtain ⟨t', order, er, pm, T, em, el, _, _⟩ := relaid_ok t (hs := es.map (·.1)) (wanted := want) hw hM (by rw [Array.size_map, num]; omega)
  rw [Array.size_map, num] at pm
  obtain ⟨M', r1, r2, r3⟩ := ordered row pm
  have num2 : (order.filterMap (es[·]?)).size = es.size := by
    have z := congrArg List.length r1
    rw [Array.length_toList, List.length_map, r2.length_eq] at z
    rw [z, num]
  rw [← r3] at T
  rw [setRelay_eq]
  refine wpAny_bind (wpAny_setState_of ho hd fit ?_)
  dsimp only
  refine wp_if_neg (by rw [sizeLine_eq]; omega) ?_
  try refine wpAny_bind (wpAny_pure ?_)
  rw [er]
  dsimp only
  refine wpAny_bind (wp_if_neg (by rw [num2]; simp) ?_)
  try refine wpAny_bind (wpAny_pure ?_)
  refine wpAny_pure ?_
  dsimp only
  refine wpAny_storeSet_of ho hd ?_ (by rw [num2, num, sizeLine_eq]; omega)
  have sb : Heap.SameBut a s.heap (s.heap.update a (Obj.putSet (order.filterMap (es[·]?)) t')) := Heap.SameBut.update ..
  refine q _ M' _ (ep + 1) t' sb ⟨⟨_, store_at ho hd, ⟨hex.1, hex.2.1, hex.2.2⟩, rfl⟩, r1, T, (r2.map (·.2)).nodup_iff.mpr one, fun p hp => is8_but (mem p (r2.mem_iff.mp hp)) ho hd sb, by rw [el]; exact led, by rw [r2.length_eq, em]; exact hn, by rw [r2.length_eq]; exact few⟩ r2
theorem add1 (R : Ts w s.heap a L es ep t) {x : Addr} {k : NK} (hx : Is8 s.heap k x) (hu : A.units + 8 < cLine) (few : L.length + 1 < 64) {Q : Bool → Shared → Prop}
    (q : ∀ b h' L' es' ep' t', Heap.SameBut a s.heap h' → Ts w h' a L' es' ep' t' → (k ∈ L.map (·.2) → L' = L) → (k ∉ L.map (·.2) → L'.Perm ((x, k) :: L)) → Q b { s with heap := h' }) : wpAny (model P w) A (setAddHashed a (.ref x) (k.hash w)) Q E s := by
  obtain ⟨o, ho, hex, hd⟩ := R.obj
  have num := R.num
  have free := R.free
  unfold setAddHashed
  rw [show (100000 : Nat) = 99999 + 1 from rfl, setAddHashedIn_succ]
  refine wpAny_holding (wpAny_bind (wpAny_setState_of ho hd R.fit ?_))
  dsimp only
  refine wp_if_neg (by simp [byScan, Value.scannable]) ?_
  try refine wpAny_bind (wpAny_pure ?_)
  refine wpAny_bind (look R hx hu (fun hm => ?_) fun K hm K2 K3 => ?_)
  · dsimp only
    exact wpAny_pure (q false s.heap L es ep t (Heap.SameBut.refl a s.heap) R (fun _ => rfl) fun n => absurd hm n)
  dsimp only
  refine wpAny_bind (wpAny_setState_of ho hd R.fit ?_)
  dsimp only
  obtain ⟨p1, p2, p3, p4, p5, p6, p7, p8, p9⟩ := R.tab.put K2 K3
  generalize epp : t.put (way t.mask (k.hash w) K) = pp at p1 p3 p4 p5 p6 p7 p8 p9 ⊢
  obtain ⟨t1, j⟩ := pp
  dsimp only at p1 p3 p4 p5 p6 p7 p8 p9 ⊢
  subst p1
  -- what follows does not depend on `plain`
  have rest : ∀ t2 : SetTable, TabOk t2 ((L.map fun p => p.2.hash w).take (SetTable.below t.place (way t.mask (k.hash w) K)) ++ k.hash w :: (L.map fun p => p.2.hash w).drop (SetTable.below t.place (way t.mask (k.hash w) K))) → t2.mask = t.mask → t2.led = t.led → t2.fill = (L.map fun p => p.2.hash w).length + 1 →
      wpAny (model P w) A (do
        storeSet a (SetTable.insertAt es (SetTable.below t.place (way t.mask (k.hash w) K)) (k.hash w, Value.ref x)) t2
        if !false && t2.tooFull then setRelay a (SetTable.grown (es.size + 1))
        return true : Sem Bool) Q E s := by
    intro t2 T2 m2 l2 f2
    have ins : (SetTable.insertAt es (SetTable.below t.place (way t.mask (k.hash w) K)) (k.hash w, Value.ref x)).toList = (L.take (SetTable.below t.place (way t.mask (k.hash w) K)) ++ (x, k) :: L.drop (SetTable.below t.place (way t.mask (k.hash w) K))).map (rowN w) := by
      rw [SetTable.toList_insertAt, R.row, List.map_append, List.map_cons, List.map_take, List.map_drop]
    have hh : (L.take (SetTable.below t.place (way t.mask (k.hash w) K)) ++ (x, k) :: L.drop (SetTable.below t.place (way t.mask (k.hash w) K))).map (fun p => p.2.hash w) = (L.map fun p => p.2.hash w).take (SetTable.below t.place (way t.mask (k.hash w) K)) ++ k.hash w :: (L.map fun p => p.2.hash w).drop (SetTable.below t.place (way t.mask (k.hash w) K)) := by
      rw [List.map_append, List.map_cons, List.map_take, List.map_drop]
    rw [← hh] at T2
    have pm := put_perm L (SetTable.below t.place (way t.mask (k.hash w) K)) (x, k)
    generalize L.take (SetTable.below t.place (way t.mask (k.hash w) K)) ++ (x, k) :: L.drop (SetTable.below t.place (way t.mask (k.hash w) K)) = L1 at ins T2 pm
    have len1 : L1.length = L.length + 1 := pm.length_eq
    have num1 : (SetTable.insertAt es (SetTable.below t.place (way t.mask (k.hash w) K)) (k.hash w, Value.ref x)).size = L.length + 1 := by
      have z := congrArg List.length ins
      rwa [Array.length_toList, List.length_map, len1] at z
    generalize SetTable.insertAt es (SetTable.below t.place (way t.mask (k.hash w) K)) (k.hash w, Value.ref x) = es1 at ins num1 ⊢
    have one1 : (L1.map (·.2)).Nodup := (pm.map (·.2)).nodup_iff.mpr (by
      rw [List.map_cons]
      exact List.nodup_cons.mpr ⟨hm, R.one⟩)
    refine wpAny_bind (wpAny_storeSet_of ho hd ?_ (by rw [num1, sizeLine_eq]; omega))
    have sb : Heap.SameBut a s.heap (s.heap.update a (Obj.putSet es1 t2)) := Heap.SameBut.update ..
    have ho1 := store_at (es' := es1) (t' := t2) ho hd
    generalize s.heap.update a (Obj.putSet es1 t2) = h1 at sb ho1 ⊢
    have mem1 : ∀ p ∈ L1, Is8 h1 p.2 p.1 := fun p hp => by
      rcases List.mem_cons.mp (pm.mem_iff.mp hp) with e | hp
      · rw [e]
        exact is8_but hx ho hd sb
      · exact is8_but (R.mem p hp) ho hd sb
    have led1 : w.params.followText "set-order" = true ∨ t2.led = true := by
      rw [l2]
      exact R.led
    have full : t2.tooFull = true ↔ (L.length + 1) * 5 ≥ t2.mask * 3 := by
      unfold SetTable.tooFull
      rw [decide_eq_true_eq, f2, List.length_map]
    by_cases hf : t2.tooFull = true
    · have z := full.mp hf
      have two : (t.mask = 7 ∧ L.length = 4) ∨ (t.mask = 31 ∧ L.length = 18) := by
        rcases R.tab.mok with e | e | e <;> rw [m2, e] at z <;> rw [e] at free <;> omega
      have sz1 : t2.place.size = es1.size := by
        have z := T2.sz
        rw [List.length_map, len1] at z
        rw [z, num1]
      rw [num]
      have go : ∀ M, SetTable.sizeAbove (SetTable.grown (L.length + 1)) - 1 = M → MaskOk M → SetTable.sizeAbove (SetTable.grown (L.length + 1)) ≤ 128 → (L.length + 1) * 5 < M * 3 →
          wpAny (model P w) A (setRelay a (SetTable.grown (L.length + 1))) (fun _ s' => wpAny (model P w) A (pure true) Q E s') E { s with heap := h1 } := fun M g1 g2 g3 g4 =>
        relay (s := { s with heap := h1 }) ho1 ⟨hex.1, hex.2.1, hex.2.2⟩ rfl ins sz1 T2.dm (by rw [num1, m2]; rcases two with ⟨e, e2⟩ | ⟨e, e2⟩ <;> omega) one1 mem1 led1 (by rw [len1]; exact few) g1 g2 g3 (by rw [len1]; exact g4) fun h2 L2 es2 ep2 t3 sb2 R2 pm2 =>
          wpAny_pure (q true h2 L2 es2 ep2 t3 (sb.trans sb2) R2 (fun y => absurd y hm) fun _ => pm2.trans pm)
      have goal : wpAny (model P w) A (setRelay a (SetTable.grown (L.length + 1))) (fun _ s' => wpAny (model P w) A (pure true) Q E s') E { s with heap := h1 } := by
        rcases two with ⟨_, e⟩ | ⟨_, e⟩
        · exact go 31 (by rw [e, size_20]) (.inr (.inl rfl)) (by rw [e, size_20]; decide) (by omega)
        · exact go 127 (by rw [e, size_76]) (.inr (.inr rfl)) (by rw [e, size_76]; decide) (by omega)
      first
        | exact wp_if_pos (by simp [hf]) (wpAny_bind goal)
        | exact wpAny_bind (wp_if_pos (by simp [hf]) goal)
    · have fin := q true h1 L1 es1 (ep + 1) t2 sb ⟨⟨_, ho1, ⟨hex.1, hex.2.1, hex.2.2⟩, rfl⟩, ins, T2, one1, mem1, led1, by rw [len1]; have := mt full.mpr hf; omega, by rw [len1]; exact few⟩ (fun y => absurd y hm) fun _ => pm
      first
        | exact wp_if_neg (by simp [hf]) (wpAny_pure fin)
        | exact wpAny_bind (wp_if_neg (by simp [hf]) (wpAny_pure (wpAny_pure fin)))
  have hb : HbvAt P w 8 s (.ref x) := hbv_key k _ 8 hx.1 hx.2
  have off : TabOk { t1 with plain := false } ((L.map fun p => p.2.hash w).take (SetTable.below t.place (way t.mask (k.hash w) K)) ++ k.hash w :: (L.map fun p => p.2.hash w).drop (SetTable.below t.place (way t.mask (k.hash w) K))) := ⟨p3.ris, p3.dm, p3.sz, p3.mok, p3.bd, p3.reach⟩
  have both : ∀ b : Bool, wpAny (model P w) A (do
        storeSet a (SetTable.insertAt es (SetTable.below t.place (way t.mask (k.hash w) K)) (k.hash w, Value.ref x)) (if b then t1 else { t1 with plain := false })
        if !false && (if b then t1 else { t1 with plain := false }).tooFull then setRelay a (SetTable.grown (es.size + 1))
        return true : Sem Bool) Q E s := fun b => by
    cases b with
    | true => exact rest t1 p3 p4 p5 p9
    | false => exact rest { t1 with plain := false } off p4 p5 p9
  by_cases pl : t1.plain = true
  · first
      | exact wpAny_bind (wp_if_pos pl (hb _ _ _ both))
      | exact wp_if_pos pl (wpAny_bind (hb _ _ _ both))
  · first
      | exact wpAny_bind (wp_if_neg pl (wpAny_pure (both true)))
      | exact wp_if_neg pl (wpAny_bind (wpAny_pure (both true)))
      | exact wp_if_neg pl (both true)
end
end Sd
namespace Sd
open PySem PySem.Spec PyProof.Rows L2
/-! ### set(xs): the loop -/
/-- what the first i keys leave -/
structure Some1 (ks : List (Addr × NK)) (i : Nat) (L : List (Addr × NK)) : Prop where
  sub : ∀ p ∈ L, p ∈ ks.take i
  all : ∀ p ∈ ks.take i, p.2 ∈ L.map (·.2)
  len : L.length ≤ i
theorem some_zero (ks : List (Addr × NK)) : Some1 ks 0 [] := ⟨fun p hp => (by cases hp), fun p hp => (by simp at hp), Nat.le_refl _⟩
theorem some_next {ks L L' : List (Addr × NK)} {i : Nat} {x : Addr × NK} (g : Some1 ks i L) (e : ks[i]? = some x) (same : x.2 ∈ L.map (·.2) → L' = L) (more : x.2 ∉ L.map (·.2) → L'.Perm (x :: L)) : Some1 ks (i + 1) L' := by
  have et : ks.take (i + 1) = ks.take i ++ [x] := by
    rw [List.take_add_one, e]
    rfl
  by_cases c : x.2 ∈ L.map (·.2)
  · rw [same c]
    refine ⟨fun p hp => by rw [et]; exact List.mem_append_left _ (g.sub p hp), fun p hp => ?_, Nat.le_succ_of_le g.len⟩
    rw [et] at hp
    rcases List.mem_append.mp hp with z | z
    · exact g.all p z
    · rw [List.mem_singleton.mp z]
      exact c
  · have pm := more c
    refine ⟨fun p hp => ?_, fun p hp => ?_, by rw [pm.length_eq]; exact Nat.succ_le_succ g.len⟩
    · rw [et]
      rcases List.mem_cons.mp (pm.mem_iff.mp hp) with z | z
      · rw [z]
        exact List.mem_append_right _ (List.mem_singleton.mpr rfl)
      · exact List.mem_append_left _ (g.sub p z)
    · rw [(pm.map (·.2)).mem_iff, List.map_cons]
      rw [et] at hp
      rcases List.mem_append.mp hp with z | z
      · exact List.mem_cons_of_mem _ (g.all p z)
      · rw [List.mem_singleton.mp z]
        exact List.mem_cons_self ..
section
variable {P : Program} {w : World} {A : Around} {E : Value → Shared → Prop} {s : Shared}
theorem Ts.keep {h h' : PySem.Heap} {a : Addr} {L : List (Addr × NK)} {es : Array (Int × Value)} {ep : Nat} {t : SetTable} (R : Ts w h a L es ep t) (ka : ∀ o, h.get? a = some o → h'.get? a = some o) (km : ∀ p ∈ L, Is8 h' p.2 p.1) : Ts w h' a L es ep t := by
  obtain ⟨o, ho, r⟩ := R.obj
  exact ⟨⟨o, ka o ho, r⟩, R.row, R.tab, R.one, km, R.led, R.free, R.few⟩
theorem ts_new {h : PySem.Heap} {a : Addr} (ho : h.get? a = some (Sx.emptyObj w)) : Ts w h a [] #[] 0 (.fresh 0 0 (!w.params.followText "set-order")) where
  obj := ⟨_, ho, ⟨rfl, rfl, rfl⟩, rfl⟩
  row := rfl
  tab := ⟨List.Pairwise.nil, rfl, rfl, .inl rfl, (fun x hx => by cases hx), fun i h j hi => by simp at hi⟩
  one := List.nodup_nil
  mem := fun p hp => nomatch hp
  led := by
    show _ ∨ (!w.params.followText "set-order") = true
    cases w.params.followText "set-order"
    · exact .inr rfl
    · exact .inl rfl
  free := by
    show 0 * 5 < 7 * 3
    decide
  few := by
    show 0 < 64
    decide
theorem fill {I : Addr} {fp wr : List Addr} {G : Array GenState → Array GenState → Prop} {n : Nat} {Pv : Nat → Value → Prop} {St : Nat → Shared → Prop} {R : Result → Shared → Prop} (W : WalksS P w A.in1 I fp wr G n Pv St) (S : Addr) (nS : S ∉ fp) (ks : List (Addr × NK)) (hn : n = ks.length) (few : ks.length < 64)
    (val : ∀ i v, Pv i v → ∃ p, ks[i]? = some p ∧ v = .ref p.1) (h0 : PySem.Heap) (hk : ∀ p ∈ ks, Is8 h0 p.2 p.1) (hS : h0.get? S = none) (hw : ∀ b ∈ wr, h0.get? b = none) (hu : A.in1.units + 8 < cLine) :
    ∀ (r i : Nat) (s : Shared), n - i = r → i ≤ n → St i s → (∀ b o, h0.get? b = some o → s.heap.get? b = some o) → (∃ L es ep t, Ts w s.heap S L es ep t ∧ Some1 ks i L) →
      (∀ s' L es ep t, Moved (S :: wr) G s s' → Ts w s'.heap S L es ep t → Some1 ks n L → (∀ b o, h0.get? b = some o → s'.heap.get? b = some o) → R (.ok (.ret .none)) s') →
      codeAny (model P w) A (.builtin "set.update.loop" ⟨[.ref S, .ref I], []⟩) R s := by
  have nW : S ∉ wr := fun z => nS (W.sub _ z)
  have up : ∀ b ∈ wr, b ∈ S :: wr := fun b hb => List.mem_cons_of_mem _ hb
  have old : ∀ {s s' : Shared}, Moved wr G s s' → (∀ b o, h0.get? b = some o → s.heap.get? b = some o) → ∀ b o, h0.get? b = some o → s'.heap.get? b = some o := fun mv kp b o e => mv.heap b o (fun hb => by rw [hw b hb] at e; cases e) (kp b o e)
  intro r
  induction r with
  | zero =>
    intro i s er hi hst kp ⟨L, es, ep, t, hT, g⟩ fin
    have ei : i = n := by omega
    subst ei
    refine codeAny_builtin F.entry_set_update_loop ?_
    rw [Around.under_plainId F.plain_set_update_loop _]
    show wpAny _ A.in1 (pyNext (.ref I) >>= _) _ _ s
    refine wpAny_bind (W.done s _ _ hst fun s' mv => ?_)
    have kp' := old mv kp
    show wpAny _ A.in1 (ret Value.none) _ _ s'
    exact wpAny_pure (fin s' L es ep t (mv.mono up) (hT.keep (fun o e => mv.heap S o nW e) fun p hp => is8_keep (hk p (List.mem_of_mem_take (g.sub p hp))) kp') g kp')
  | succ r ih =>
    intro i s er hi hst kp ⟨L, es, ep, t, hT, g⟩ fin
    have lt : i < n := by omega
    refine codeAny_builtin F.entry_set_update_loop ?_
    rw [Around.under_plainId F.plain_set_update_loop _]
    show wpAny _ A.in1 (pyNext (.ref I) >>= _) _ _ s
    refine wpAny_bind (W.item i s _ _ lt hst fun v s' hv hst' mv => ?_)
    obtain ⟨p, hp, rfl⟩ := val i v hv
    have kp' := old mv kp
    have hT' : Ts w s'.heap S L es ep t := hT.keep (fun o e => mv.heap S o nW e) fun p hp => is8_keep (hk p (List.mem_of_mem_take (g.sub p hp))) kp'
    have hx : Is8 s'.heap p.2 p.1 := is8_keep (hk p (List.mem_of_getElem? hp)) kp'
    show wpAny _ A.in1 (holding [Value.ref p.1] (setAdd S (.ref p.1)) >>= _) _ _ s'
    unfold setAdd
    refine wpAny_bind (wpAny_holding (wpAny_holding (wpAny_bind ((nestedKind P w).pyHash (show A.in1.units + 8 < cLine from hu) (show (nestedKind P w).is s'.heap p.2 p.1 from hx) ?_))))
    refine add1 (s := { s' with toks := s'.toks + p.2.draws }) hT' hx hu (by have := g.len; omega) fun b h' L' es' ep' t' sb hT2 c1 c2 => ?_
    have g' := some_next g hp c1 c2
    have kp2 : ∀ b o, h0.get? b = some o → h'.get? b = some o := fun b o e => (sb.2 b (fun z => by rw [z, hS] at e; cases e)).trans (kp' b o e)
    refine wpAny_pure ⟨plainId_quiet F.plain_set_update_loop _, ih (i + 1) _ (by omega) lt (W.frame _ s' _ _ hst' (Nat.le_add_right _ _) fun b hb o e => ?_) kp2 ⟨L', es', ep', t', hT2, g'⟩ fun s2 L2 es2 ep2 t2 mv2 hT3 g2 kp3 => ?_⟩
    · rw [sb.2 b (fun z : b = S => nS (by rw [← z]; exact hb))]
      exact e
    · refine fin s2 L2 es2 ep2 t2 (Moved.trans W.gtrans ((mv.mono up).then_heap (Nat.le_add_right _ _) fun b o hb e => ?_) mv2) hT3 g2 kp3
      rw [sb.2 b (fun z : b = S => hb (by rw [z]; exact List.mem_cons_self ..))]
      exact e
end
end Sd
namespace Sd
open PySem PySem.Spec PyProof.Rows L2
section
variable {P : Program} {w : World} {A : Around} {E : Value → Shared → Prop} {s : Shared}
set_option maxRecDepth 100000 in
set_option maxHeartbeats 4000000 in
/-- set(xs), xs a list or a tuple of keys -/
theorem call_setN {l : Addr} {items : Array Value} (ks : List (Addr × NK)) {Q : Value → Shared → Prop} (hh : A.handled = none) (hl : s.heap.IsList l items ∨ s.heap.IsTuple l items) (hit : items.toList = ks.map fun p => Value.ref p.1) (hk : ∀ p ∈ ks, Is8 s.heap p.2 p.1) (few : ks.length < 64) (hu : A.units + 12 < cLine)
    (h : ∀ (h' : PySem.Heap) (tk : Nat) L es ep t, Ts w h' s.heap.objs.size L es ep t → Some1 ks ks.length L → (∀ b o, s.heap.get? b = some o → h'.get? b = some o) → Q (.ref s.heap.objs.size) { s with heap := h', toks := tk }) :
    wpAny (model P w) A (call (.type "set") [.ref l]) Q E s := by
  have hisz : items.size = ks.length := by
    have z := congrArg List.length hit
    rwa [Array.length_toList, List.length_map] at z
  have hval : ∀ (i : Nat) (v : Value), items[i]? = some v → ∃ p, ks[i]? = some p ∧ v = .ref p.1 := fun i v hv => by
    rw [← Array.getElem?_toList, hit, List.getElem?_map] at hv
    cases e : ks[i]? with
    | none =>
      rw [e] at hv
      cases hv
    | some p =>
      rw [e] at hv
      exact ⟨p, rfl, (Option.some.inj hv).symm⟩
  obtain ⟨c, tl, hmro⟩ := PySem.F.called_set.mro
  have hmade := PySem.F.called_set.made
  have hsub := PySem.F.called_set.sub
  refine wpAny_call (codeAny_of_tree ?_)
  show wpAny _ _ (callAny (.type "set") _) _ _ _
  refine wpAny_pure ⟨Code.quiet_builtin _ (by decide +kernel), codeAny_builtin PySem.F.entry_type_call ?_⟩
  rw [Around.under_plain (weight_type_call_type "set" [.ref l] []) rfl]
  have h1 := PySem.F.called_set.notType
  have h2 := PySem.F.called_set.canCreate
  have hct := PySem.F.typeCall_set_1 (.ref l)
  repeat (any_goals (first | assumption | wp_step))
  refine codeAny_mono (code_set_led1 (.ref l) (E := E) (Q₁ := fun obj s₁ => obj = .ref s.heap.objs.size ∧ s₁ = { s with heap := s.heap.push (Sx.emptyObj w) }) ⟨rfl, rfl⟩) fun r s₁ hr => ?_
  cases r with
  | error e => exact hr
  | ok fl =>
    cases fl with
    | ret obj =>
      obtain ⟨rfl, rfl⟩ := hr
      have hS : (s.heap.push (Sx.emptyObj w)).get? s.heap.objs.size = some (Sx.emptyObj w) := Heap.get?_push_size _ rfl
      have hT : Shared.TypeIs { s with heap := s.heap.push (Sx.emptyObj w) } (.ref s.heap.objs.size) "set" := ⟨_, hS, rfl⟩
      have hli := PySem.F.called_set.init.lookup
      have hbi := PySem.F.called_set.init.bind (.ref s.heap.objs.size)
      repeat (any_goals (first | assumption | wp_step))
      refine codeAny_mono (codeAny_call_builtin (R := wants (fun r s₂ => r = .none ∧ ∃ h' tk L es ep t, s₂ = { s with heap := h', toks := tk } ∧ Ts w h' s.heap.objs.size L es ep t ∧ Some1 ks ks.length L ∧
          (∀ b o, s.heap.get? b = some o → h'.get? b = some o)) E) PySem.F.called_set.init.plain PySem.F.entry_set_init (check_set_init_1 hT ?_)) fun r₂ s₂ hr₂ => ?_
      · have hh3 : A.in1.in1.in1.handled = none := by simp [hh]
        have hz1 : (s.heap.push (Sx.emptyObj w)).objs.size = s.heap.objs.size + 1 := Heap.size_push ..
        rcases hl with hl | hl
        · obtain ⟨ol, hol, hcl, nl, hdl⟩ := hl
          obtain ⟨ocls, odict, odata, oslots⟩ := ol
          simp only at hcl hdl
          subst hcl; subst hdl
          have hol' : (s.heap.push (Sx.emptyObj w)).get? l = some { cls := .type "list", dict := odict, data := .seq items nl, slots := oslots } := Heap.get?_push_of_some _ hol
          have hsls := PySem.F.sub_list_set
          have hslf := PySem.F.sub_list_frozenset
          have hne : (Value.type "list" == Value.type "dict") = false := by decide
          have hl1 : (s.heap.push (Sx.emptyObj w)).IsList l items := ⟨_, hol', rfl, nl, rfl⟩
          unfold Builtin.«set.__init__» noKeywords Builtin.Frozenset.updateFrom
          generalize hPI : pyIter = PI
          wp_walk
          subst hPI
          refine wpAny_pyIter_list hl1 ?_
          refine wpAny_bind (wpAny_runValue ?_)
          have hlS : l < s.heap.objs.size := Heap.lt_size hol
          have hneI : l ≠ (s.heap.push (Sx.emptyObj w)).objs.size := by
            rw [hz1]
            exact Nat.ne_of_lt (Nat.lt_succ_of_lt hlS)
          have hSf : s.heap.objs.size ∉ [(s.heap.push (Sx.emptyObj w)).objs.size, l] := by
            simp only [List.mem_cons, List.mem_singleton, List.not_mem_nil, or_false, not_or]
            rw [hz1]
            exact ⟨Nat.ne_of_lt (Nat.lt_succ_self _), Nat.ne_of_gt hlS⟩
          have hget : ((s.heap.push (Sx.emptyObj w)).push { cls := .type "list_iterator", data := .fields #[.ref l, .int 0 0] }).get? s.heap.objs.size = some (Sx.emptyObj w) := Heap.get?_push_of_some _ hS
          refine fill ((Walks.list hh3 _ l hneI items).toS) s.heap.objs.size hSf ks hisz few hval s.heap hk (Heap.get?_none_of_le (Nat.le_refl _)) (fun b hb => ?hw1) (by simp only [Around.in1_units]; omega) (items.size - 0) 0 _ (by omega) (Nat.zero_le _)
            ⟨⟨_, Heap.get?_push_size _ rfl, rfl, rfl⟩, (hl1.push _)⟩ (fun b o e => Heap.get?_push_of_some _ (Heap.get?_push_of_some _ e)) ⟨[], _, _, _, ts_new hget, some_zero ks⟩ ?hR1
          case hw1 =>
            rw [List.mem_singleton.mp hb, hz1]
            exact Heap.get?_none_of_le (Nat.le_succ _)
          case hR1 =>
            intro s' L es ep t hm hS' hmm hkk
            obtain ⟨h', g', d', tk', os'⟩ := s'
            have eg : g' = s.gens := hm.gens
            have ed : d' = s.drawn := hm.drawn
            have eo : os' = s.os := hm.os
            subst eg; subst ed; subst eo
            show wpAny _ _ _ _ _ _
            refine wpAny_pure ?_
            show wpAny _ _ (ret Value.none) _ _ _
            exact wpAny_pure ⟨rfl, h', tk', L, es, ep, t, rfl, hS', hisz ▸ hmm, hkk⟩
        · obtain ⟨ol, hol, hcl, nl, hdl⟩ := hl
          obtain ⟨ocls, odict, odata, oslots⟩ := ol
          simp only at hcl hdl
          subst hcl; subst hdl
          have hol' : (s.heap.push (Sx.emptyObj w)).get? l = some { cls := .type "tuple", dict := odict, data := .seq items nl, slots := oslots } := Heap.get?_push_of_some _ hol
          have hsls := PySem.F.sub_tuple_set
          have hslf := PySem.F.sub_tuple_frozenset
          have hne : (Value.type "tuple" == Value.type "dict") = false := by decide
          have hl1 : (s.heap.push (Sx.emptyObj w)).IsTuple l items := ⟨_, hol', rfl, nl, rfl⟩
          unfold Builtin.«set.__init__» noKeywords Builtin.Frozenset.updateFrom
          generalize hPI : pyIter = PI
          wp_walk
          subst hPI
          refine wpAny_pyIter_tuple hl1 ?_
          refine wpAny_bind (wpAny_runValue ?_)
          have hlS : l < s.heap.objs.size := Heap.lt_size hol
          have hneI : l ≠ (s.heap.push (Sx.emptyObj w)).objs.size := by
            rw [hz1]
            exact Nat.ne_of_lt (Nat.lt_succ_of_lt hlS)
          have hSf : s.heap.objs.size ∉ [(s.heap.push (Sx.emptyObj w)).objs.size, l] := by
            simp only [List.mem_cons, List.mem_singleton, List.not_mem_nil, or_false, not_or]
            rw [hz1]
            exact ⟨Nat.ne_of_lt (Nat.lt_succ_self _), Nat.ne_of_gt hlS⟩
          have hget : ((s.heap.push (Sx.emptyObj w)).push { cls := .type "tuple_iterator", data := .fields #[.ref l, .int 0 0] }).get? s.heap.objs.size = some (Sx.emptyObj w) := Heap.get?_push_of_some _ hS
          refine fill ((Walks.tuple hh3 _ l hneI items).toS) s.heap.objs.size hSf ks hisz few hval s.heap hk (Heap.get?_none_of_le (Nat.le_refl _)) (fun b hb => ?hw2) (by simp only [Around.in1_units]; omega) (items.size - 0) 0 _ (by omega) (Nat.zero_le _)
            ⟨⟨_, Heap.get?_push_size _ rfl, rfl, rfl⟩, (hl1.push _)⟩ (fun b o e => Heap.get?_push_of_some _ (Heap.get?_push_of_some _ e)) ⟨[], _, _, _, ts_new hget, some_zero ks⟩ ?hR2
          case hw2 =>
            rw [List.mem_singleton.mp hb, hz1]
            exact Heap.get?_none_of_le (Nat.le_succ _)
          case hR2 =>
            intro s' L es ep t hm hS' hmm hkk
            obtain ⟨h', g', d', tk', os'⟩ := s'
            have eg : g' = s.gens := hm.gens
            have ed : d' = s.drawn := hm.drawn
            have eo : os' = s.os := hm.os
            subst eg; subst ed; subst eo
            show wpAny _ _ _ _ _ _
            refine wpAny_pure ?_
            show wpAny _ _ (ret Value.none) _ _ _
            exact wpAny_pure ⟨rfl, h', tk', L, es, ep, t, rfl, hS', hisz ▸ hmm, hkk⟩
      · cases r₂ with
        | error e => exact hr₂
        | ok fl₂ =>
          cases fl₂ with
          | ret r =>
            obtain ⟨rfl, h', tk, L, es, ep, t, rfl, hS', hmm, hk'⟩ := hr₂
            repeat (any_goals (first | assumption | wp_step))
            exact h _ _ _ _ _ _ hS' hmm hk'
          | _ => exact hr₂.elim
    | _ => exact hr.elim
end
end Sd
/-! Sorting tuples of alike data, the empty tuple among them. -/
namespace Sd
open PySem PySem.Spec PyProof.Rows L2 PySem.W PySem.Calls
open PySem.SeqAt
def more : PyData → Bool
  | .tuple (_ :: _) => true
  | _ => false
section
variable {P : Program} {w : World} {A : Around} {E : Value → Shared → Prop} {s : Shared}
theorem call_tuple_lt {Q : Value → Shared → Prop} {l b : Addr} {items items2 : Array Value} {e r : Nat → Bool} (hl : s.heap.IsTuple l items) (hb : s.heap.IsTuple b items2)
    (he : ∀ j (h1 : j < items.size) (h2 : j < items2.size), EqAt A.in1 s items[j] items2[j] (e j)) (hr : ∀ j (h1 : j < items.size) (h2 : j < items2.size), e j = false → RcLt A.in1 s items[j] items2[j] (r j))
    (h : Q (.bool (firstLt e r (decide (items.size < items2.size)) (List.range (min items.size items2.size)))) s) : wpAny (model P w) A (call (.builtin "tuple.__lt__") [.ref l, .ref b]) Q E s := by
  obtain ⟨⟨cls, dd, data, sl⟩, ho, hc, n, hd⟩ := id hl
  obtain ⟨⟨cls2, dd2, data2, sl2⟩, ho2, hc2, n2, hd2⟩ := id hb
  simp only at hc hd hc2 hd2
  subst hc hd hc2 hd2
  exact call_meets F.slot_tuple_lt ⟨_, ho, rfl⟩ F.entry_tuple_lt (F.args_tuple_lt_2 _ _) (tuple_ltAt l b items items2 n n2 dd dd2 sl sl2 e r) ⟨ho, ho2, he, hr, h⟩
theorem oneLt_tup {xs ys : List PyData} {a b : Value} {as bs : List Addr} {Q : Bool → Shared → Prop} (ra : PySem.Reads s.heap a (.tuple xs) as) (rb : PySem.Reads s.heap b (.tuple ys) bs) (h : alike (.tuple xs) (.tuple ys) = true)
    (hu : A.units + min (PyData.tuple xs).depth (PyData.tuple ys).depth < cLine) (hq : Q (dataLt (.tuple xs) (.tuple ys)) s) : wpAny (model P w) A (oneLt' true a b) Q E s := by
  have hal : alikeAll xs ys = true := by simpa [alike] using h
  cases ra with
  | @tuple l o vs n _ as₁ h1 h2 h3 h4 =>
    cases rb with
    | @tuple l' o' vs' n' _ bs₁ k1 k2 k3 k4 =>
      have n1 : vs.size = xs.length := by simpa using SeqAt.ReadsAll.length _ _ _ h4
      have n2 : vs'.size = ys.length := by simpa using SeqAt.ReadsAll.length _ _ _ k4
      rw [dataLt_tuple, ← firstLt_toks xs ys hal, ← n1, ← n2] at hq
      rw [oneLt'_eq]
      simp only [if_true]
      refine wpAny_bind (wpAny_cRoomFor (room_here hu) ?_)
      refine wpAny_bind (wpAny_callSpecialIfBound?_slot (T := "tuple") ⟨_, h1, h2⟩ F.slot_tuple_lt (call_tuple_lt (e := pairEq xs ys) (r := fun j => dataLt (xs.getD j .none) (ys.getD j .none)) ⟨_, h1, h2, _, h3⟩ ⟨_, k1, k2, _, k3⟩ (fun j j1 j2 => ?_) (fun j j1 j2 hj => ?_) ?_))
      · have := eqAt_alikeAll xs ys A.in1 s vs.toList vs'.toList _ _ h4 k4 hal (room_in hu) j (by simpa using j1) (by simpa using j2)
        simpa using this
      · have := rcLt_alikeAll xs ys A.in1 s vs.toList vs'.toList _ _ h4 k4 hal (room_in hu) j (by simpa using j1) (by simpa using j2) hj
        simpa using this
      · exact wpAny_truthy_bool hq
theorem firsts {M : Model} {A : Around} {E : Value → Shared → Prop} {s : Shared} : ∀ {vs : List Value} {ds : List PyData}, EachIs (fun v d => ∃ as, PySem.Reads s.heap v d as) vs ds → (∀ d ∈ ds, ∃ xs, d = .tuple xs) → ∀ {Q : List (Option Value) → Shared → Prop}, (∀ os : List (Option Value), os.map (·.isSome) = ds.map more → Q os s) → wpAny M A (vs.mapM firstOfTuple') Q E s
  | _, _, .nil, _, _, h => by
    rw [List.mapM_nil]
    exact wpAny_pure (h [] rfl)
  | _, _, .cons (a := v) (b := d) (as := vs) (bs := ds) ⟨as, r⟩ t, ht, Q, h => by
    obtain ⟨xs, rfl⟩ := ht d (List.mem_cons_self ..)
    cases r with
    | @tuple a o us n _ _ ho hc hd hr =>
      rw [List.mapM_cons]
      refine wpAny_bind ?_
      rw [kas_first_eq]
      refine wpAny_bind (Looks.here (show Looks M s.heap (typeOf (.ref a)) o.cls from (Looks.ld ho).andThen .now) ?_)
      rw [hc, if_neg (by first | decide | simp)]
      refine wpAny_bind (listItems_at ho hd (wpAny_pure ?_))
      refine wpAny_bind (firsts t (fun d hd => ht d (List.mem_cons_of_mem _ hd)) fun os eos => wpAny_pure (h _ ?_))
      have hn : us.size = xs.length := by simpa using SeqAt.ReadsAll.length _ _ _ hr
      have e1 : (us[0]?).isSome = more (.tuple xs) := by
        cases xs with
        | nil =>
          have z : us.size = 0 := hn
          rw [Array.getElem?_eq_none (by omega)]
          rfl
        | cons x xs =>
          have z : 0 < us.size := by
            rw [hn]
            exact Nat.succ_pos _
          rw [Array.getElem?_eq_getElem z]
          rfl
      rw [List.map_cons, List.map_cons, eos, e1]
theorem kind_of {M : Model} {A : Around} {E : Value → Shared → Prop} {s : Shared} {vs : List Value} {ds : List PyData} (e : EachIs (fun v d => ∃ as, PySem.Reads s.heap v d as) vs ds) (ht : ∀ d ∈ ds, ∃ xs, d = .tuple xs) (hne : ds.all more = false) {Q : SortKind → Shared → Prop}
    (h : Q (if (ds.map more).head? = some true then general' else oneType') s) : wpAny M A (keyKind' vs.toArray) Q E s := by
  rw [kat_kind_eq, List.mapM_toArray, map_eq_pure_bind]
  refine wpAny_bind (wpAny_bind (firsts e ht fun os eos => wpAny_pure ?_))
  have h1 : (os.toArray.all fun x => x.isSome) = false := by
    rw [List.all_toArray]
    have z : os.all (fun x => x.isSome) = (os.map (·.isSome)).all id := by
      rw [List.all_map]
      rfl
    rw [z, eos, List.all_map]
    exact hne
  rw [if_neg (by rw [h1]; exact Bool.false_ne_true)]
  have h2 : ((os.toArray[0]?).bind id).isSome = true ↔ (ds.map more).head? = some true := by
    rw [← eos]
    cases os with
    | nil => simp
    | cons o os =>
      cases o <;> simp
  by_cases c : (ds.map more).head? = some true
  · rw [if_pos c] at h
    rw [if_pos (h2.mpr c)]
    exact wpAny_pure h
  · rw [if_neg c] at h
    rw [if_neg (fun z => c (h2.mp z))]
    have hT : ∀ v ∈ vs, Looks M s.heap (typeOf v) (Value.type "tuple") := fun v hv => by
      obtain ⟨d, hd, as, r⟩ := e.left v hv
      obtain ⟨xs, rfl⟩ := ht d hd
      exact looks_reads r
    have hv : vs ≠ [] := by
      rintro rfl
      cases e
      exact absurd hne (by decide)
    rw [oneTypeOnly'_eq, List.mapM_toArray, map_eq_pure_bind]
    refine wpAny_bind (wpAny_bind (wpAny_bind (kas_mapM (r := Value.type "tuple") _ (fun v hv Q' hq => (hT v hv).here hq) (wpAny_pure ?_))))
    have hall2 : ((List.map (fun _ => Value.type "tuple") vs).toArray.all fun x => x == Value.type "tuple") = true := by
      simp only [List.all_toArray, List.all_map, List.all_eq_true]
      intro _ _
      rfl
    have h0 : (List.map (fun _ => Value.type "tuple") vs).toArray[0]? = some (Value.type "tuple") := by
      cases vs with
      | nil => exact absurd rfl hv
      | cons v vs => simp
    rw [h0]
    simp only [hall2, if_true]
    exact wpAny_pure (wpAny_pure h)
theorem sorts_tups {vs : List Value} {ds : List PyData} (e : EachIs (fun v d => ∃ as, PySem.Reads s.heap v d as) vs ds) (hal : AllAlike ds) (ht : ∀ d ∈ ds, ∃ xs, d = .tuple xs) (hu : ∀ d, d ∈ ds → A.units + d.depth < cLine) : SortsAt P w A s (dataKind s.heap ds) vs := by
  have room : ∀ {d d' : PyData}, d ∈ ds → A.units + min d.depth d'.depth < cLine := fun {d d'} hd => Nat.lt_of_le_of_lt (Nat.add_le_add_left (Nat.min_le_left _ _) _) (hu d hd)
  by_cases hne : ds.all more = true
  · refine SortsAt.data e hal (.inl fun d hd => ?_) hu
    have z := List.all_eq_true.mp hne d hd
    obtain ⟨xs, rfl⟩ := ht d hd
    cases xs with
    | nil => exact absurd z (by decide)
    | cons x xs => exact ⟨x, xs, rfl⟩
  · refine ⟨fun v hv => ?_, if (ds.map more).head? = some true then general' else oneType', ?_, fun _ E Q hq => kind_of e ht (by simpa using hne) hq⟩
    · obtain ⟨d, hd, as, r⟩ := e.left v hv
      exact ⟨_, dataKind_some hal hd r⟩
    · intro E x y a b Q ha hb hq
      obtain ⟨d, as, hd, ra, rfl⟩ := dataKind_inv ha
      obtain ⟨d', as', hd', rb, rfl⟩ := dataKind_inv hb
      have hdd := hal d hd d' hd'
      have hroom := room (d' := d') hd
      obtain ⟨xs, rfl⟩ := ht d hd
      obtain ⟨ys, rfl⟩ := ht d' hd'
      by_cases c : (ds.map more).head? = some true
      · rw [if_pos c]
        show wpAny (model P w) A (oneLt' false x y) Q E s
        exact oneLt_alike (fun z => nomatch z) ra rb hdd (fun z => nomatch z) hroom hq
      · rw [if_neg c, keyLt'_oneType]
        exact oneLt_tup ra rb hdd hroom hq
variable {β : Type} {vs : List Value} {bs : List β} {enc : β → PyData} {R : Value → β → Prop}
/-- xs.sort() -/
theorem list_sort_tups {a : Addr} {n : Nat} {Q : Value → Shared → Prop} (ho : s.heap.get? a = some (seqObj "list" vs.toArray n)) (e : EachIs R vs bs) (er : EachIs (fun v b => ∃ as, PySem.Reads s.heap v (enc b) as ∧ a ∉ as) vs bs) (hal : AllAlike (bs.map enc)) (ht : ∀ b ∈ bs, ∃ xs, enc b = .tuple xs) (hL : bs.length ≤ sizeLine)
    (hu : ∀ b, b ∈ bs → A.units + 1 + (enc b).depth < cLine) (h : ∀ out, out.length = bs.length → EachIs R out (bs.mergeSort (dataLe false enc)) → Q .none { s with heap := sortedHeap s.heap a vs (List.toArray out) }) :
    wpAny (model P w) A (call (.builtin "list.sort") [.ref a]) Q E s := by
  have er' : EachIs (fun v b => ∃ as, PySem.Reads (sortingHeap s.heap a vs) v (enc b) as) vs bs := each_keepBut (h' := sortingHeap s.heap a vs) (fun _ _ hb q => sortingHeap_old hb q) (fun o q => by rw [ho] at q; rw [← Option.some.inj q]) hal er
  refine wpAny_call_entry slot_list_sort ⟨_, ho, rfl⟩ entry_list_sort (list_sort_vals (κ := dataKind (sortingHeap s.heap a vs) (bs.map enc)) ho (sorts_tups (s := { s with heap := sortingHeap s.heap a vs }) (each_map (R := fun v d => ∃ as, PySem.Reads (sortingHeap s.heap a vs) v d as) enc er') hal (fun d hd => ?_) (bound_map hu)) (by rw [e.length]; exact hL) ⟨.none, rfl, ?_⟩) (args_list_sort _)
  · obtain ⟨b, hb, rfl⟩ := List.mem_map.mp hd
    exact ht b hb
  · exact h _ (by rw [sortVals_length false rfl]; exact e.length) (sortVals_data false e er' hal)
end
end Sd
/-! Sets of nested tuples over the layer: set(xs), sorted(set). -/
namespace Sd
open PySem PySem.Spec PyProof.Rows L2 Bx TL Dx PySem.W PySem.Calls
mutual
/-- the key that a datum is -/
def nk : PyData → NK
  | .int i => .num i
  | .str x => .text x
  | .tuple xs => .tup (nks xs)
  | _ => .none
def nks : List PyData → List NK
  | [] => []
  | d :: ds => nk d :: nks ds
end
mutual
/-- made of whole numbers, texts and tuples -/
def plain : PyData → Bool
  | .int _ => true
  | .str _ => true
  | .tuple xs => plains xs
  | _ => false
def plains : List PyData → Bool
  | [] => true
  | d :: ds => plain d && plains ds
end
mutual
theorem nk_inj : ∀ (d e : PyData), plain d = true → plain e = true → nk d = nk e → d = e
  | .int i, e, _, he, h => by
    cases e <;> first | (simp only [nk] at h; cases h; rfl) | (simp only [nk] at h; cases h; done) | (simp only [plain] at he; cases he; done)
  | .str i, e, _, he, h => by
    cases e <;> first | (simp only [nk] at h; cases h; rfl) | (simp only [nk] at h; cases h; done) | (simp only [plain] at he; cases he; done)
  | .tuple xs, e, hd, he, h => by
    cases e with
    | tuple ys =>
      simp only [nk, NestedKey.tup.injEq] at h
      simp only [plain] at hd he
      rw [nks_inj xs ys hd he h]
    | _ => first | (simp only [nk] at h; cases h; done) | (simp only [plain] at he; cases he; done)
  | .none, _, hd, _, _ => by simp [plain] at hd
  | .bool _, _, hd, _, _ => by simp [plain] at hd
  | .list _, _, hd, _, _ => by simp [plain] at hd
  | .dict _, _, hd, _, _ => by simp [plain] at hd
theorem nks_inj : ∀ (ds es : List PyData), plains ds = true → plains es = true → nks ds = nks es → ds = es
  | [], [], _, _, _ => rfl
  | [], _ :: _, _, _, h => by simp [nks] at h
  | _ :: _, [], _, _, h => by simp [nks] at h
  | d :: ds, e :: es, hd, he, h => by
    simp only [nks, List.cons.injEq] at h
    simp only [plains, Bool.and_eq_true] at hd he
    rw [nk_inj d e hd.1 he.1 h.1, nks_inj ds es hd.2 he.2 h.2]
end
mutual
theorem is_nk {h : PySem.Heap} : ∀ (d : PyData) (v : Value) (as : List Addr), plain d = true → PySem.Reads h v d as → NestedIs h (nk d) v ∧ as = []
  | .int _, _, _, _, r => by
    cases r
    exact ⟨.int _ _, rfl⟩
  | .str _, _, _, _, r => by
    cases r
    exact ⟨.text _ _, rfl⟩
  | .tuple xs, _, _, hd, r => by
    simp only [plain] at hd
    cases r with
    | tuple h1 h2 h3 h4 =>
      obtain ⟨q1, q2⟩ := is_nks xs _ _ hd h4
      exact ⟨.tup h1 h2 h3 q1, q2⟩
  | .none, _, _, hd, _ => by simp [plain] at hd
  | .bool _, _, _, hd, _ => by simp [plain] at hd
  | .list _, _, _, hd, _ => by simp [plain] at hd
  | .dict _, _, _, hd, _ => by simp [plain] at hd
theorem is_nks {h : PySem.Heap} : ∀ (ds : List PyData) (vs : List Value) (as : List Addr), plains ds = true → PySem.ReadsAll h vs ds as → NestedAll h (nks ds) vs ∧ as = []
  | [], _, _, _, r => by
    cases r
    exact ⟨.nil, rfl⟩
  | d :: ds, _, _, hd, r => by
    simp only [plains, Bool.and_eq_true] at hd
    cases r with
    | cons r1 r2 =>
      obtain ⟨q1, q2⟩ := is_nk d _ _ hd.1 r1
      obtain ⟨q3, q4⟩ := is_nks ds _ _ hd.2 r2
      exact ⟨.cons q1 q3, by rw [q2, q4]; rfl⟩
end
/-- a tuple made of such data, not deep -/
def K8 (d : PyData) : Prop := (∃ xs, d = .tuple xs) ∧ plain d = true ∧ (nk d).depth ≤ 8 ∧ d.depth ≤ 60
theorem perm_each {α β : Type} {R : α → β → Prop} {out its : List α} (pm : out.Perm its) : ∀ {ds : List β}, EachIs R its ds → ∃ es : List β, es.Perm ds ∧ EachIs R out es := by
  induction pm with
  | nil => exact fun e => ⟨_, List.Perm.refl _, e⟩
  | cons x p ih =>
    intro ds e
    cases e with
    | cons h t =>
      obtain ⟨es, q1, q2⟩ := ih t
      exact ⟨_ :: es, q1.cons _, .cons h q2⟩
  | swap x y l =>
    intro ds e
    cases e with
    | cons h t =>
      cases t with
      | cons h2 t2 => exact ⟨_ :: _ :: _, List.Perm.swap _ _ _, .cons h2 (.cons h t2)⟩
  | trans p q ih1 ih2 =>
    intro ds e
    obtain ⟨es, a1, a2⟩ := ih2 e
    obtain ⟨fs, b1, b2⟩ := ih1 a2
    exact ⟨fs, b1.trans a1, b2⟩
section
variable {P : Program} {w : World} {A : Around} {E : Value → Shared → Prop} {s : Shared} {a : Addr} {L : List (Addr × NK)} {es : Array (Int × Value)} {ep : Nat} {t : SetTable}
theorem sorted_setN {Rl : Value → PyData → Prop} {ds : List PyData} {Q : Value → Shared → Prop} (T : Ts w s.heap a L es ep t) (hh : A.handled = none) (hu : A.units + 65 < cLine)
    (e : EachIs Rl (L.map fun p => Value.ref p.1) ds) (er : EachIs (fun u d => ∃ as, PySem.Reads s.heap u d as) (L.map fun p => Value.ref p.1) ds) (hal : AllAlike ds) (hk : ∀ d ∈ ds, K8 d)
    (hQ : ∀ s' p (out : List Value) (c : Nat) (fs : List PyData), (∀ b o, s.heap.get? b = some o → s'.heap.get? b = some o) → s'.gens = s.gens → s'.os = s.os → s.heap.objs.size ≤ p →
      s'.heap.get? p = some (seqObj "list" out.toArray c) → fs.Perm ds → EachIs Rl out (fs.mergeSort (dataLe false id)) → Q (.ref p) s') :
    wpAny (model P w) A (call (.builtin "sorted") [.ref a]) Q E s := by
  obtain ⟨o, ho, hex, hd⟩ := T.obj
  have hn := T.num
  have hfew := T.few
  have hsb : scanBound = 4096 := rfl
  have hva : es.toList.map (·.2) = L.map fun p => Value.ref p.1 := by
    rw [T.row, List.map_map]
    rfl
  refine Calls.call_function_entry kind_sorted plain_sorted entry_sorted (args_sorted1 _) ?_
  unfold Builtin.«sorted»
  refine wpAny_bind (m := checkCount "sorted" 1 1 _) (wpAny_pure ?_)
  refine wpAny_bind (collect_set (A := A.in1) hh ⟨_, ho, hex.1, hd⟩ T.fit (by rw [hn]; omega) T.tab.ris T.led fun s1 vs k1 hz g1 o1 pm => ?_)
  rw [hva] at pm
  have both : EachIs (fun u d => Rl u d ∧ ∃ as, PySem.Reads s.heap u d as) (L.map fun p => Value.ref p.1) ds := by
    clear hQ hal hk hva
    revert e er
    generalize (L.map fun p => Value.ref p.1) = us
    intro e er
    clear pm
    induction e with
    | nil => exact .nil
    | cons h t ih =>
      cases er with
      | cons r1 r2 => exact .cons ⟨h, r1⟩ (ih r2)
  obtain ⟨fs, pf, ef⟩ := perm_each pm both
  have hfl : fs.length = L.length := by rw [pf.length_eq, ← e.length, List.length_map]
  have hvl : vs.length = L.length := by rw [pm.length_eq, List.length_map]
  have hline : vs.length ≤ sizeLine := by
    rw [hvl, sizeLine_eq]
    omega
  refine wpAny_bind (wpAny_newList ?_ hline)
  have hoL : (s1.heap.push (seqObj "list" vs.toArray 0)).get? s1.heap.objs.size = some (seqObj "list" vs.toArray 0) := Heap.get?_push_size _ rfl
  have mfs : ∀ d ∈ fs, d ∈ ds := fun d hd => pf.mem_iff.mp hd
  have kp : ∀ b u, s.heap.get? b = some u → (s1.heap.push (seqObj "list" vs.toArray 0)).get? b = some u := fun b u q => Heap.get?_push_of_some _ (k1 b u q)
  refine wpAny_bind (wpAny_holding (list_sort_tups (R := Rl) (enc := id) (bs := fs) hoL (ef.mono fun _ _ z => z.1) ?reads (by rw [List.map_id]; exact fun d hd d' hd' => hal d (mfs d hd) d' (mfs d' hd')) (fun d hd => (hk d (mfs d hd)).1) (by rw [hfl, sizeLine_eq]; omega) (fun d hd => ?room) fun out hout eo => ?done))
  case reads =>
    refine (each_mem ef).mono fun u d z => ?_
    obtain ⟨as, r⟩ := z.1.2
    have z0 := (is_nk d u as (hk d (mfs d z.2)).2.1 r).2
    exact ⟨as, PyProof.Rows.Reads.keeps kp r, by rw [z0]; exact List.not_mem_nil⟩
  case room =>
    have z := (hk d (mfs d hd)).2.2.2
    show A.in1.units + 1 + d.depth < cLine
    simp only [Around.in1_units]
    omega
  case done =>
    obtain ⟨c, hc⟩ := sortedHeap_at (vs := vs) (out := out.toArray) hoL
    refine wpAny_pure ⟨_, rfl, hQ _ s1.heap.objs.size out c fs (fun b u q0 => ?_) g1 o1 hz hc pf eo⟩
    have q := k1 b u q0
    have hlt := Heap.lt_size q
    show (sortedHeap (s1.heap.push (seqObj "list" vs.toArray 0)) s1.heap.objs.size vs _).get? b = some u
    rw [sortedHeap_old (Nat.ne_of_lt hlt) (by rw [size_push']; exact Nat.lt_succ_of_lt hlt)]
    exact Heap.get?_push_of_some _ q
end
/-! ### over the layer -/
def SetN (w : World) (a : Addr) (L : List (Addr × NK)) : HO := .ext fun h => ∃ h0 es ep t, Ts w h0 a L es ep t ∧ ∀ o, h0.get? a = some o → h.get? a = some o
section
variable {X : Cx} {pins : List (Addr × Obj)} {σ : L2.St} {H : Hp} {s : Shared}
theorem setN_ok {P : Program} {w : World} {h : PySem.Heap} {a : Addr} {L : List (Addr × NK)} {es : Array (Int × Value)} {ep : Nat} {t : SetTable} (R : Ts w h a L es ep t) : ObjOk P w H h a (SetN w a L) := by
  obtain ⟨o, ho, _⟩ := R.obj
  exact ⟨⟨h, es, ep, t, R, fun _ z => z⟩, ⟨_, ho⟩, fun h1 h2 ⟨h0, es, ep, t, p, k⟩ k2 => ⟨h0, es, ep, t, p, fun o z => k2 o (k o z)⟩⟩
theorem keys_of (I : Inv X pins σ H s) : ∀ {xs : List V} {us : List Value} {ds : List PyData}, DpAll X.K H xs ds → Vals xs us → (∀ d ∈ ds, K8 d) →
    ∃ ks : List (Addr × NK), us = ks.map (fun p => Value.ref p.1) ∧ ks.map (·.2) = ds.map nk ∧ (∀ p ∈ ks, Is8 s.heap p.2 p.1) ∧ ∀ p ∈ ks, ∃ d ∈ ds, p.2 = nk d ∧ Dp X.K H (V.ref p.1) d
  | [], [], [], _, _, _ => ⟨[], rfl, rfl, fun p hp => (by cases hp), fun p hp => (by cases hp)⟩
  | x :: xs, u :: us, d :: ds, h, r, hk => by
    cases h with
    | cons h1 h2 =>
      cases r with
      | cons r1 r2 =>
        obtain ⟨ks, q1, q2, q3, q4⟩ := keys_of I h2 r2 fun d hd => hk d (List.mem_cons_of_mem _ hd)
        obtain ⟨⟨ys, rfl⟩, k1, k2, k3⟩ := hk d (List.mem_cons_self ..)
        obtain ⟨as, rd⟩ := Dp.reads I _ _ _ h1 r1
        obtain ⟨b, zs, rfl, _⟩ := dp_tup h1
        have eu : u = Value.ref b := by
          cases r1
          rfl
        subst eu
        refine ⟨(b, nk (.tuple ys)) :: ks, by rw [q1]; rfl, by rw [List.map_cons, List.map_cons, q2], fun p hp => ?_, fun p hp => ?_⟩
        · rcases List.mem_cons.mp hp with z | z
          · rw [z]
            exact ⟨(is_nk _ _ _ k1 rd).1, k2⟩
          · exact q3 p z
        · rcases List.mem_cons.mp hp with z | z
          · rw [z]
            exact ⟨_, List.mem_cons_self .., rfl, h1⟩
          · obtain ⟨e, e1, e2⟩ := q4 p z
            exact ⟨e, List.mem_cons_of_mem _ e1, e2⟩
  | [], _ :: _, _, _, r, _ => by cases r
  | _ :: _, [], _, _, r, _ => by cases r
  | [], [], _ :: _, h, _, _ => by cases h
  | _ :: _, _ :: _, [], h, _, _ => by cases h
theorem nodup_of {α β : Type} (f : α → β) : ∀ {l : List α}, (l.map f).Nodup → l.Nodup
  | [], _ => List.nodup_nil
  | x :: l, h => by
    rw [List.map_cons, List.nodup_cons] at h
    exact List.nodup_cons.mpr ⟨fun z => h.1 (List.mem_map.mpr ⟨x, z, rfl⟩), nodup_of f h.2⟩
theorem pairs_same {α β : Type} : ∀ {l m : List (α × β)}, l.map (·.1) = m.map (·.1) → l.map (·.2) = m.map (·.2) → l = m
  | [], [], _, _ => rfl
  | [], _ :: _, h, _ => by simp at h
  | _ :: _, [], h, _ => by simp at h
  | (a, b) :: l, (c, d) :: m, h, g => by
    simp only [List.map_cons, List.cons.injEq] at h g
    rw [h.1, g.1, pairs_same h.2 g.2]
theorem pick {K : PySem.W.Frag} {ds : List PyData} : ∀ (L : List (Addr × NK)), (∀ p ∈ L, ∃ d ∈ ds, p.2 = nk d ∧ Dp K H (V.ref p.1) d) → ∃ es : List PyData, DpAll K H (L.map fun p => V.ref p.1) es ∧ L.map (·.2) = es.map nk ∧ ∀ d ∈ es, d ∈ ds
  | [], _ => ⟨[], .nil, rfl, fun d hd => (by cases hd)⟩
  | p :: L, h => by
    obtain ⟨es, q1, q2, q3⟩ := pick L fun p hp => h p (List.mem_cons_of_mem _ hp)
    obtain ⟨d, d1, d2, d3⟩ := h p (List.mem_cons_self ..)
    refine ⟨d :: es, .cons d3 q1, by rw [List.map_cons, List.map_cons, q2, d2], fun e he => ?_⟩
    rcases List.mem_cons.mp he with z | z
    · rw [z]
      exact d1
    · exact q3 e z
/-- set(xs), xs a list or a tuple of such tuples -/
def rSetN (K : PySem.W.Frag) (w : World) : List V → Hp → VK → Prop := fun vs H Q => ∃ (a : Addr) (xs : List V) (ds : List PyData), vs = [V.ref a] ∧ (SqL K H a xs ∨ SqT K H a xs) ∧ DpAll K H xs ds ∧ (∀ d ∈ ds, K8 d) ∧ ds.length < 64 ∧
  ∀ p L es, H p = none → DpAll K H (L.map fun q => V.ref q.1) es → L.map (·.2) = es.map nk → es.Nodup → (∀ d, d ∈ es ↔ d ∈ ds) → es.length ≤ ds.length → Q (.ref p) (upd H p (SetN w p L))
theorem cr_setN {w : World} (hc : X.calm = true) (hw : X.w = w) (hu : X.A.units + 65 < cLine) : CallR X (.type "set") (rSetN X.K w) := by
  subst hw
  intro pins s σ H vs us Q I r h
  obtain ⟨a, xs, ds, rfl, hs, hd, hk, hlen, q⟩ := h
  rw [Vals.ref1 r]
  have hn : H s.heap.objs.size = none := I.hok.fresh (Nat.le_refl _)
  obtain ⟨its, rv, pl⟩ : ∃ its : List Value, Vals xs its ∧ (s.heap.IsList a its.toArray ∨ s.heap.IsTuple a its.toArray) := by
    rcases hs with hs | hs
    · obtain ⟨its, rv, pl, _⟩ := I.list hs
      exact ⟨its, rv, .inl pl.isList⟩
    · obtain ⟨its, rv, pl, _⟩ := I.tuple hs
      exact ⟨its, rv, .inr pl⟩
  obtain ⟨ks, e1, e2, e3, e4⟩ := keys_of I hd rv hk
  have hkl : ks.length = ds.length := by
    have z := congrArg List.length e2
    rwa [List.length_map, List.length_map] at z
  refine call_setN (P := X.prog) (w := X.w) ks (I.ok.hd hc) pl (by simpa using e1) e3 (by omega) (by omega) fun h' tk L es ep t T sm k => ?_
  obtain ⟨fs, f1, f2, f3⟩ := pick L fun p hp => e4 p (List.mem_of_mem_take (sm.sub p hp))
  have inj : ∀ d ∈ ds, ∀ d' ∈ ds, nk d = nk d' → d = d' := fun d hd d' hd' e => nk_inj d d' (hk d hd).2.1 (hk d' hd').2.1 e
  refine ⟨.ref s.heap.objs.size, upd H s.heap.objs.size (SetN X.w s.heap.objs.size L), I.laid (t' := tk) k (Nat.le_refl _) (setN_ok T), rfl, q _ L fs hn f1 f2 ?_ (fun d => ⟨f3 d, fun hd => ?_⟩) ?_⟩
  · have z := T.one
    rw [f2] at z
    exact nodup_of nk z
  · have z : nk d ∈ ks.map (·.2) := by
      rw [e2]
      exact List.mem_map.mpr ⟨d, hd, rfl⟩
    obtain ⟨p, hp, ep⟩ := List.mem_map.mp z
    have z2 := sm.all p (by rw [List.take_length]; exact hp)
    rw [f2, ep] at z2
    obtain ⟨d', hd', e'⟩ := List.mem_map.mp z2
    rw [← inj d' (f3 d' hd') d hd e']
    exact hd'
  · have z := sm.len
    have z2 := congrArg List.length f2
    rw [List.length_map, List.length_map] at z2
    omega
theorem refs_vals : ∀ (L : List (Addr × NK)), Vals (L.map fun q => V.ref q.1) (L.map fun q => Value.ref q.1)
  | [] => .nil
  | _ :: L => .cons rfl (refs_vals L)
/-- sorted(a set of such tuples) -/
def rSortN (K : PySem.W.Frag) (w : World) : List V → Hp → VK → Prop := fun vs H Q => ∃ (a : Addr) (L : List (Addr × NK)) (ds : List PyData), vs = [V.ref a] ∧ H a = some (SetN w a L) ∧ DpAll K H (L.map fun q => V.ref q.1) ds ∧ L.map (·.2) = ds.map nk ∧ AllAlike ds ∧ (∀ d ∈ ds, K8 d) ∧ ds.length < 64 ∧
  ∀ (ys : List V) (fs : List PyData) (p : Addr), H p = none → fs.Perm ds → DpAll K H ys (fs.mergeSort So.dle) → Q (.ref p) (upd H p (.lst ys))
theorem cr_sortN {w : World} (hc : X.calm = true) (hw : X.w = w) (hu : X.A.units + 65 < cLine) : CallR X (.builtin "sorted") (rSortN X.K w) := by
  subst hw
  intro pins s σ H vs us Q I r h
  obtain ⟨a, L, ds, rfl, ha, hd, hn2, hal, hk, hlen, q⟩ := h
  obtain ⟨h0, es, ep, t, T0, k0⟩ := (I.hok a _ ha).1
  rw [Vals.ref1 r]
  have rl := refs_vals L
  have ea := So.each_of I hd rl
  have T : Ts X.w s.heap a L es ep t := T0.keep k0 fun p hp => by
    obtain ⟨ks, e1, e2, e3, e4⟩ := keys_of I hd rl hk
    have es1 : ks.map (·.1) = L.map (·.1) := by
      have z := congrArg (List.map fun v => match v with | Value.ref b => b | _ => 0) e1
      rw [List.map_map, List.map_map] at z
      exact z.symm
    have el : ks = L := pairs_same es1 (by rw [e2, hn2])
    rw [← el] at hp
    exact e3 p hp
  refine sorted_setN (P := X.prog) T (I.ok.hd hc) hu (ea.mono fun _ _ z => z.1) (ea.mono fun _ _ z => z.2) hal hk fun s' p out c fs k g o hp hg pf eo => ?_
  obtain ⟨ys, ry, dy⟩ := So.each_back eo
  have hl2 : ys.length ≤ sizeLine := by
    have z := eo.length
    rw [List.length_mergeSort, pf.length_eq] at z
    rw [ry.length, z, sizeLine_eq]
    omega
  have hn : H p = none := I.hok.fresh hp
  have J : Inv X pins σ (upd H p (.lst ys)) { s with heap := s'.heap, gens := s'.gens, drawn := s'.drawn, toks := s'.toks } :=
    I.call (ch := []) (Un.laid k hp hn) (I.hok.laid k hp ⟨hl2, out, c, ry, hg⟩) (by rw [g]; exact I.bare) (fun _ z => nomatch z)
  have e : s' = { s with heap := s'.heap, gens := s'.gens, drawn := s'.drawn, toks := s'.toks } := by
    cases s'
    cases s
    cases o
    rfl
  rw [e]
  exact ⟨.ref p, _, J, rfl, q ys fs p hn pf dy⟩
end
end Sd
/-! len(set of texts); data in a tuple of data; == and != of data within a block. -/
namespace Sl
open PySem PySem.Spec PyProof.Rows L2 Bx TL Dx
section
variable {X : Cx}
def rLenX (P : Program) (w : World) : List V → Hp → VK → Prop := fun vs H Q => ∃ (a : Addr) (l : List Str), vs = [V.ref a] ∧ H a = some (Sx.SetV P w a l) ∧ l.length < 4000 ∧ Q (.int l.length) H
theorem call_lenX : CallR X (.builtin "len") (rLenX X.prog X.w) := by
  intro pins s σ H vs us Q I r h
  obtain ⟨a, l, rfl, ha, hlen, q⟩ := h
  have R : Sx.SetX X.prog X.w s.heap a l := (I.hok a _ ha).1
  obtain ⟨⟨es, ep, t⟩, ho, F, nd, ri, hl⟩ := R
  rw [Vals.ref1 r]
  have hsz : es.size = l.length := F.sz
  exact call_len_set ho ⟨rfl, rfl, rfl⟩ rfl F.fit (by rw [hsz]; omega) ⟨.int l.length, H, I.tok _, ⟨s.toks + 1, by rw [hsz]⟩, q⟩
def rInT (K : PySem.W.Frag) : R2 := fun x y H Q => ∃ d ds, Dp K H x d ∧ Dp K H y (.tuple ds) ∧ SeqAt.shaped d = true ∧ SeqAt.shaped (.tuple ds) = true ∧ Q (.bl (ds.any fun z => PyData.eqv z d)) H
theorem op_inT {K : PySem.W.Frag} (hK : X.K = K) (hu : X.A.units + 65 < cLine) : OpR X (compareOp .In) (rInT K) := by
  subst hK
  intro pins s σ H x y v u Q I rx ry h
  obtain ⟨d, ds, hd, he, sd, se, q⟩ := h
  obtain ⟨as, r1⟩ := Dp.reads I d x v hd rx
  obtain ⟨bs, r2⟩ := Dp.reads I (.tuple ds) y u he ry
  exact SeqAt.in_tuple_reads r2 r1 (SeqAt.canLay_of_shaped se) (SeqAt.canLay_of_shaped sd) (room_in_shaped sd hu) ⟨.bl _, H, I, rfl, q⟩
theorem op_eqDK {K : PySem.W.Frag} (hK : X.K = K) (hu : X.A.units + 64 < cLine) : OpR X (compareOp .Eq) (rEqD K) := by
  subst hK
  exact op_eqD hu
theorem op_neDK {K : PySem.W.Frag} (hK : X.K = K) (hu : X.A.units + 64 < cLine) : OpR X (compareOp .NotEq) (rNeD K) := by
  subst hK
  exact op_neD hu
end
end Sl
/-! data not in a tuple of data. -/
namespace Sl
open PySem PySem.Spec PyProof.Rows L2 Bx TL Dx
section
variable {X : Cx}
def rNotInT (K : PySem.W.Frag) : R2 := fun x y H Q => ∃ d ds, Dp K H x d ∧ Dp K H y (.tuple ds) ∧ SeqAt.shaped d = true ∧ SeqAt.shaped (.tuple ds) = true ∧ Q (.bl (!ds.any fun z => PyData.eqv z d)) H
theorem op_notInT {K : PySem.W.Frag} (hK : X.K = K) (hu : X.A.units + 65 < cLine) : OpR X (compareOp .NotIn) (rNotInT K) := by
  subst hK
  intro pins s σ H x y v u Q I rx ry h
  obtain ⟨d, ds, hd, he, sd, se, q⟩ := h
  obtain ⟨as, one⟩ := Dp.reads I d x v hd rx
  obtain ⟨bs, two⟩ := Dp.reads I (.tuple ds) y u he ry
  exact SeqAt.notIn_tuple_reads two one (SeqAt.canLay_of_shaped se) (SeqAt.canLay_of_shaped sd) (room_in_shaped sd hu) ⟨.bl _, H, I, rfl, q⟩
end
end Sl
/-! sorted(a list of tuples of alike data), the empty tuple among them. -/
namespace Sd
open PySem PySem.Spec PyProof.Rows L2 Bx TL Dx PySem.W PySem.Calls
section
variable {P : Program} {w : World} {A : Around} {E : Value → Shared → Prop} {s : Shared} {vs : List Value} {bs : List PyData} {R : Value → PyData → Prop}
theorem sorted_tups {l : Addr} {Q : Value → Shared → Prop} (hl : s.heap.IsList l vs.toArray) (e : EachIs R vs bs) (er : EachIs (fun v b => ∃ as, PySem.Reads s.heap v b as) vs bs) (hal : AllAlike bs) (ht : ∀ b ∈ bs, ∃ xs, b = .tuple xs) (hL : bs.length ≤ sizeLine)
    (hu : ∀ b, b ∈ bs → A.units + 2 + b.depth < cLine) (h : ∀ out, out.length = bs.length → EachIs R out (bs.mergeSort (dataLe false id)) → Q (.ref (s.heap.objs.size + 1)) { s with heap := sortedAll s.heap vs (List.toArray out) }) :
    wpAny (model P w) A (call (.builtin "sorted") [.ref l]) Q E s := by
  have em : bs.map id = bs := List.map_id bs
  have kept : EachIs (fun v b => ∃ as, PySem.Reads (sortingHeap (copyHeap s.heap vs) (s.heap.objs.size + 1) vs) v (id b) as) vs bs := er.mono fun _ _ ⟨as, r⟩ => ⟨as, PyProof.Rows.Reads.keeps (fun _ _ => sorting_copy_old) r⟩
  have here : SortsAt P w A.in1.in1 { s with heap := sortingHeap (copyHeap s.heap vs) (s.heap.objs.size + 1) vs } (dataKind (sortingHeap (copyHeap s.heap vs) (s.heap.objs.size + 1) vs) (bs.map id)) vs := by
    rw [em]
    exact sorts_tups (s := { s with heap := sortingHeap (copyHeap s.heap vs) (s.heap.objs.size + 1) vs }) kept hal ht fun d hd => hu d hd
  exact sorted_vals hl here (by rw [e.length]; exact hL) (h _ (by rw [sortVals_length false rfl]; exact e.length) (sortVals_data (enc := id) false e kept (by rw [em]; exact hal)))
end
section
variable {X : Cx}
def rSortT (K : PySem.W.Frag) : List V → Hp → VK → Prop := fun xs H Q => ∃ (a : Addr) (vs : List V) (ds : List PyData), xs = [V.ref a] ∧ SqL K H a vs ∧ DpAll K H vs ds ∧ AllAlike ds ∧ (∀ d ∈ ds, ∃ xs, d = .tuple xs) ∧ ds.length ≤ sizeLine ∧ (∀ d ∈ ds, d.depth ≤ 60) ∧
  ∀ (ys : List V) (p : Addr), H p = none → DpAll K H ys (ds.mergeSort So.dle) → Q (.ref p) (upd H p (.lst ys))
theorem cr_sortT (hu : X.A.units + 65 < cLine) : CallR X (.builtin "sorted") (rSortT X.K) := by
  intro pins s σ H xs us Q I r h
  obtain ⟨a, vs, ds, rfl, hs, hd, hal, hso, hz, hdp, q⟩ := h
  cases r with
  | cons ra rb =>
    cases rb
    cases ra
    obtain ⟨its, rv, hl, _⟩ := I.list hs
    have ea := So.each_of I hd rv
    refine sorted_tups (bs := ds) (R := fun u d => ∃ v, Dp X.K H v d ∧ L2.RelV v u) hl.isList (ea.mono fun _ _ z => z.1) (ea.mono fun _ _ z => z.2) hal hso hz (fun d hd => ?_) fun out hlen eo => ?_
    · have := hdp d hd
      omega
    · obtain ⟨ys, ry, dy⟩ := So.each_back eo
      obtain ⟨ep, he'⟩ := PyProof.Rows.sortedAll_at s.heap its out.toArray
      have hyl : ys.length = ds.length := by rw [ry.length, hlen]
      exact ⟨.ref _, upd H (s.heap.objs.size + 1) (.lst ys), I.laid (t' := s.toks) (fun _ _ => PyProof.Rows.sortedAll_old) (Nat.le_succ _) ⟨by rw [hyl]; exact hz, out, ep, ry, by simpa using he'⟩, rfl, q ys _ (I.hok.fresh (Nat.le_succ _)) dy⟩
end
end Sd
/-! t[::-1] of a tuple. -/
namespace Rt
open PySem PySem.Spec PyProof.Rows L2 HT
section
variable {prog : Program} {w : World} {A : Around} {E : Value → Shared → Prop} {s : Shared}
theorem sliceApplied_rev {sl : Addr} {vs : Value} {n : Nat} {Q : Int × Int × Nat → Shared → Prop} (hs : s.heap.IsSliceOf sl .none .none vs) (ps : IsPart vs (some (-1))) (h : Q ((n : Int) - 1, -1, n) s) :
    wpAny (model prog w) A (Builtin.Slice.sliceApplied (.ref sl) (pure (n : Int))) Q E s := by
  obtain ⟨os, hos, hcs, hds⟩ := id hs
  unfold Builtin.Slice.sliceApplied Builtin.Slice.sliceFields
  refine wpAny_bind (wpAny_bind (wpAny_field hos hds (x := .none) rfl (wpAny_bind (wpAny_field hos hds (x := .none) rfl (wpAny_bind (wpAny_field hos hds (x := vs) rfl (wpAny_pure ?_)))))))
  refine wpAny_bind (slicePart_ ps ?_)
  show wpAny _ _ (if ((-1 : Int) == 0) = true then _ else _) _ _ s
  rw [if_neg (by decide)]
  refine wpAny_bind (slicePart_none (wpAny_bind (slicePart_none (wpAny_bind (wpAny_pure ?_)))))
  show wpAny _ _ (pure ((n : Int) - 1, (-1 : Int), Builtin.Slice.slicePlaces ((n : Int) - 1) (-1) (-1))) _ _ s
  have e : Builtin.Slice.slicePlaces ((n : Int) - 1) (-1) (-1) = n := by
    unfold Builtin.Slice.slicePlaces
    rw [if_neg (by decide)]
    split
    · have e2 : ((n : Int) - 1 - -1 - 1) / (- -1) = (n : Int) - 1 := by
        rw [show (- -1 : Int) = 1 by decide, Int.ediv_one]
        omega
      rw [e2]
      omega
    · show (0 : Int).toNat = n
      omega
  rw [e]
  exact wpAny_pure h
theorem pick_rev (xs : Array Value) : ((List.range xs.size).filterMap fun (k : Nat) => xs[(((xs.size : Int) - 1) + (k : Int) * -1).toNat]?).toArray = xs.toList.reverse.toArray := by
  have e : (fun (k : Nat) => xs[(((xs.size : Int) - 1) + (k : Int) * -1).toNat]?) = (xs[·]?) ∘ fun k => xs.size - 1 - k := by
    funext k
    have : (((xs.size : Int) - 1) + (k : Int) * -1).toNat = xs.size - 1 - k := by omega
    show xs[(((xs.size : Int) - 1) + (k : Int) * -1).toNat]? = xs[xs.size - 1 - k]?
    rw [this]
  rw [e, ← List.filterMap_map, PySem.W.krv_range, List.filterMap_reverse, PySem.W.krv_all]
theorem getItem_tuple_rev {t sl : Addr} {items : Array Value} {vs : Value} {Q : Value → Shared → Prop} (ht : IsTup s.heap t items) (hs : s.heap.IsSliceOf sl .none .none vs) (ps : IsPart vs (some (-1)))
    (h : Q (.ref s.heap.objs.size) { s with heap := s.heap.push { cls := .type "tuple", data := .seq items.toList.reverse.toArray } })
    (hsz : items.size ≤ sizeLine) : wpAny (model prog w) A (getItem (.ref t) (.ref sl)) Q E s := by
  have htake : sizeOk (.seq items.toList.reverse.toArray) := by
    show items.toList.reverse.toArray.size ≤ sizeLine
    rw [List.size_toArray, List.length_reverse, Array.length_toList]
    exact hsz
  obtain ⟨os, hos, hcs, hds⟩ := id hs
  have hTs : s.TypeIs (.ref sl) "slice" := ⟨os, hos, hcs⟩
  unfold getItem
  try with_reducible refine wpAny_holding ?_
  first | refine wpAny_bind (wpAny_pure ?_) | skip
  refine wpAny_bind (wpAny_sequenceKey ht.typeIs (by decide) ?_)
  refine wpAny_bind (wpAny_callSpecial?_slot (name := Str.ofString "__getitem__") ht.typeIs PyProof.Rows.slot_tuple_getitem
    (wpAny_call_entry PyProof.Rows.slot_tuple_getitem ht.typeIs entry_tuple_getitem ?_ (args_tuple_getitem _ _)))
  show wpAny _ _ (Builtin.Tuple.tupleItemsOf (.ref t) >>= _) _ _ s
  refine wpAny_bind (tupleItemsOf_ ht ?_)
  refine wpAny_bind (wpAny_typeOf hTs ?_)
  rw [if_pos (by decide)]
  refine wpAny_bind (sliceApplied_rev hs ps ?_)
  have hno : ¬ (((((items.size : Int) - 1) == 0 && (-1 : Int) == 1) && items.size == items.size) = true) := by
    rw [show ((-1 : Int) == 1) = false by decide, Bool.and_false, Bool.false_and]
    exact Bool.false_ne_true
  show wpAny _ _ (if ((((items.size : Int) - 1) == 0 && (-1 : Int) == 1) && items.size == items.size) = true then _ else _) _ _ s
  rw [if_neg hno, pick_rev]
  first
    | exact wpAny_bind (m := Builtin.Tuple.tupleExact _) (wpAny_newObj_type (wpAny_pure ⟨_, rfl, wpAny_pure h⟩) htake)
    | exact wpAny_bind (m := Builtin.Tuple.tupleExact _) (wpAny_newObj_type (wpAny_bind (wpAny_pure (wpAny_pure ⟨_, rfl, wpAny_pure h⟩))) htake)
    | exact wpAny_bind (wpAny_bind (m := Builtin.Tuple.tupleExact _) (wpAny_newObj_type (wpAny_pure (wpAny_pure ⟨_, rfl, wpAny_pure h⟩)) htake))
    | exact wpAny_bind (wpAny_bind (m := Builtin.Tuple.tupleExact _) (wpAny_newObj_type (wpAny_pure ⟨_, rfl, wpAny_pure h⟩) htake))
end
section
variable {X : Cx}
def tRevT (K : PySem.W.Frag) (te : TE) : TE := fun σ H Q => te σ H fun x H1 => ∃ a xs, x = .ref a ∧ SqT K H1 a xs ∧ ∀ p, H1 p = none → Q (.ref p) (upd H1 p (.tup xs.reverse))
theorem pe_revT {e : Expr} {te : TE} {k : Nat} {p1 p2 p3 pos : Pos} (he : PE X e te) : PE X (.Subscript e (.Slice none none (some (.UnaryOp .USub (.Constant (.int 1) k p1) p2)) p3) pos) (tRevT X.K te) := by
  refine ⟨fun pins s σ H Q I h => ?_⟩
  refine Subscript_ (thn (he.run pins s σ H _ I h) fun v s1 ⟨x, H1, I1, r1, q1⟩ => ?_)
  obtain ⟨a, xs, ex, hx, q⟩ := q1
  subst ex
  cases r1
  have hst : PO X (some (.UnaryOp .USub (.Constant (.int 1) k p1) p2)) (tPart (tUn (rU fun i => .int (-i)) (tC (.int 1)))) := po_some (pe_un un_neg pe_int)
  refine wpAny_Slice (thn (po_none.run pins s1 σ H1 (fun o H2 => o = none ∧ H2 = H1) I1 ⟨rfl, rfl⟩) fun vl s2 ⟨l, H2, I2, pl, el, e2⟩ => ?_)
  subst el e2
  refine thn (po_none.run pins s2 σ H2 (fun o H3 => o = none ∧ H3 = H2) I2 ⟨rfl, rfl⟩) fun vu s3 ⟨u, H3, I3, pu, eu, e3⟩ => ?_
  subst eu e3
  refine thn (hst.run pins s3 σ H3 (fun o H4 => o = some (-1) ∧ H4 = H3) I3 ⟨1, rfl, -1, rfl, rfl, rfl⟩) fun vs s4 ⟨o, H4, I4, ps, eo, e4⟩ => ?_
  subst eo e4
  cases pl
  cases pu
  have I5 : Inv X pins σ H4 { s4 with heap := s4.heap.push { cls := .type "slice", data := .fields #[.none, .none, vs] } } := I4.kept (t' := s4.toks) fun b ob q => Heap.get?_push_of_some _ q
  obtain ⟨its, r, ht, hz⟩ := I5.tuple hx
  have hlen := r.length
  show wpAny (model X.prog X.w) X.A (subscriptTail e (.Slice none none (some (.UnaryOp .USub (.Constant (.int 1) k p1) p2)) p3) (.ref a) (.ref s4.heap.objs.size)) (EP X pins σ Q) X.xe { s4 with heap := s4.heap.push { cls := .type "slice", data := .fields #[.none, .none, vs] } }
  refine tail_any (ops := [.ref a, .ref s4.heap.objs.size]) ht.typeIs (PyProof.Rows.slot_tuple_getitem.lookup) ?_ (by with_unfolding_all rfl)
  refine getItem_tuple_rev ht (Heap.IsSliceOf.new _ .none .none vs) ps ?_ (by rw [List.size_toArray]; omega)
  refine ⟨.ref _, _, I5.laid (t' := s4.toks) (o := .tup xs.reverse) (fun b ob q => Heap.get?_push_of_some _ q) (Nat.le_refl _) ?_, rfl, q _ (I5.hok.fresh (Nat.le_refl _))⟩
  exact ⟨by rw [List.length_reverse]; exact hz, _, r.reverse, IsTup.new _ _⟩
end
end Rt
/-! t.index(x), t a tuple without a dict of its own; within a block, too. -/
namespace TiX
open PySem PySem.Spec PyProof.Rows L2 Bx TL Dx Zx Ow
def tTix (to : TE) (t : TA) : TE := fun σ H Q => to σ H fun x H1 => ∃ (p : Addr) (ys : List Str), x = .ref p ∧ PlT H1 p (ys.map V.str) ∧ t σ H1 fun vs H2 => ∃ (z : Str) (j : Nat), vs = [.str z] ∧ PlT H2 p (ys.map V.str) ∧ ys[j]? = some z ∧ (∀ m, m < j → ys[m]? ≠ some z) ∧ Q (.int (j : Nat)) H2
variable {X : Cx} {o e : Expr} {es : List Expr} {to : TE} {t : TA} {apos cpos : Pos}
theorem pe_tix (ho : PE X o to) (ha : PA X (e :: es) t)
    (hbase : attributeBase o "index" X.env (eval o X.env) = eval o X.env := by rfl)
    (hfew : ((backTo cpos (starEach (e :: es) X.env)).all (fun x => !x.1) && (backToKw cpos (keywordEach [] X.env)).all (fun x => x.1.isSome)
      && decide ((e :: es).length + ([] : List Keyword).length + (if ([] : List Keyword).isEmpty then 0 else 1) < 30)) = true := by rfl)
    (hline : (apos.endLine == cpos.line) = true := by rfl) (hs : starEach (e :: es) X.env = (false, eval e X.env) :: starEach es X.env := by rfl) (hplain : (backTo cpos (starEach es X.env)).any (·.1) = false := by rfl) :
    PE X (.Call (.Attribute o "index" apos) (e :: es) [] cpos) (tTix to t) := by
  refine ⟨fun pins s σ H Q I h => ?_⟩
  refine wpAny_Call_method_late hbase hfew hline rfl (thn (ho.run pins s σ H _ I h) fun v s1 ⟨x, H1, I1, r1, p, ys, ex, pl, q1⟩ => ?_)
  subst ex
  cases r1
  obtain ⟨ob, hp, hd⟩ := pl
  obtain ⟨hg, hz, its, rv, o2, ho2, hc, n, hdat⟩ : ObjOk X.prog X.w H1 s1.heap p (.frz ob (.tup (ys.map V.str))) := I1.hok p _ hp
  rw [hg] at ho2
  obtain rfl := Option.some.inj ho2
  refine ⟨"tuple", "tuple.index", PySem.F.plainAttrs_tuple, PySem.F.slot_tuple_index, PySem.F.type_tuple_index, ⟨ob, hg, hc⟩, fun a ea => ?_, ?_⟩
  · cases ea
    exact ⟨ob, hg, hd⟩
  have hA := ha.run cpos pins s1 σ H1 _ I1 q1
  rw [hs] at hA ⊢
  refine Calls.callWith_builtin (by show (false || (backTo cpos (starEach es X.env)).any (·.1)) = false; rw [hplain] <;> rfl) (Calls.evalArgs_plain ?_)
  exact thn hA fun us s2 ⟨vs, H2, I2, r2, z, j, ev, pl2, hy, hno, q2⟩ => mt_tup_index pins s2 σ H2 (.ref p) vs _ us Q I2 rfl r2 ⟨p, ys, z, j, rfl, ev, pl2.sq, hy, hno, q2⟩
end TiX
namespace K36
local macro_rules | `(tactic| walk_at "rd") => `(tactic| repeat (first | refine ⟨rfl, ?_⟩ | refine ⟨_, rfl, ?_⟩ | refine ⟨_, _, rfl, rfl, ?_⟩ | refine ⟨⟨_, rfl⟩, ?_⟩))
open PySem PySem.Spec PyProof.Rows L2 Bx TL Dx Zx Ow Sup NdefX Px
def topS (i : Nat) : Stmt := PySem.Challenge.pw_shadowlinks_k36_machines_read.main.body.getD i (.Pass ⟨0, 0, 0, 0⟩)
abbrev s_is_ascending : Stmt := topS 2
abbrev n_is_ascending : List Str := ["values"]
theorem sc_is_ascending : FnScope n_is_ascending ["values"] (defScope s_is_ascending) := ⟨rfl, rfl, rfl, by decide +kernel, rfl, by decide +kernel, by decide +kernel⟩
abbrev s_merge_names : Stmt := topS 3
abbrev n_merge_names : List Str := ["lists", "names", "name"]
theorem sc_merge_names : FnScope n_merge_names ["lists"] (defScope s_merge_names) := ⟨rfl, rfl, rfl, by decide +kernel, rfl, by decide +kernel, by decide +kernel⟩
abbrev s_replace_names : Stmt := topS 4
abbrev n_replace_names : List Str := ["names", "table", "name"]
theorem sc_replace_names : FnScope n_replace_names ["names", "table"] (defScope s_replace_names) := ⟨rfl, rfl, rfl, by decide +kernel, rfl, by decide +kernel, by decide +kernel⟩
abbrev s_column_numbers : Stmt := topS 6
abbrev n_column_numbers : List Str := ["names", "assignment", "words", "name", "index", "word"]
theorem sc_column_numbers : FnScope n_column_numbers ["names", "assignment"] (defScope s_column_numbers) := ⟨rfl, rfl, rfl, by decide +kernel, rfl, by decide +kernel, by decide +kernel⟩
abbrev s_run : Stmt := topS 7
abbrev n_run : List Str := ["machine", "numbers", "state", "number"]
theorem sc_run : FnScope n_run ["machine", "numbers"] (defScope s_run) := ⟨rfl, rfl, rfl, by decide +kernel, rfl, by decide +kernel, by decide +kernel⟩
abbrev s_own_columns : Stmt := topS 8
abbrev n_own_columns : List Str := ["own", "names", "places", "name", "column", "place"]
theorem sc_own_columns : FnScope n_own_columns ["own", "names"] (defScope s_own_columns) := ⟨rfl, rfl, rfl, by decide +kernel, rfl, by decide +kernel, by decide +kernel⟩
abbrev s_spread_moves : Stmt := topS 9
abbrev n_spread_moves : List Str := ["machine", "names", "numbers", "row", "number"]
theorem sc_spread_moves : FnScope n_spread_moves ["machine", "names"] (defScope s_spread_moves) := ⟨rfl, rfl, rfl, by decide +kernel, rfl, by decide +kernel, by decide +kernel⟩
abbrev s_rearranged_machine : Stmt := topS 10
abbrev n_rearranged_machine : List Str := ["machine", "table", "renamed", "ascending", "moves", "names", "_", "ends", "name", "row"]
theorem sc_rearranged_machine : FnScope n_rearranged_machine ["machine", "table"] (defScope s_rearranged_machine) := ⟨rfl, rfl, rfl, by decide +kernel, rfl, by decide +kernel, by decide +kernel⟩
abbrev s__number_of : Stmt := topS 11
abbrev n__number_of : List Str := ["letters", "number", "letter"]
theorem sc__number_of : FnScope n__number_of ["letters"] (defScope s__number_of) := ⟨rfl, rfl, rfl, by decide +kernel, rfl, by decide +kernel, by decide +kernel⟩
abbrev s_Kind_is_valid : Stmt := inClass (topS 13) 2
abbrev n_Kind_is_valid : List Str := ["self", "names", "constraint", "name"]
theorem sc_Kind_is_valid : FnScope n_Kind_is_valid ["self", "names", "constraint"] (defScope s_Kind_is_valid) := ⟨rfl, rfl, rfl, by decide +kernel, rfl, by decide +kernel, by decide +kernel⟩
abbrev s_Words_names_in : Stmt := inClass (topS 15) 1
abbrev n_Words_names_in : List Str := ["self", "constraint"]
theorem sc_Words_names_in : FnScope n_Words_names_in ["self", "constraint"] (defScope s_Words_names_in) := ⟨rfl, rfl, rfl, by decide +kernel, rfl, by decide +kernel, by decide +kernel⟩
abbrev s_Words_is_valid : Stmt := inClass (topS 15) 2
abbrev n_Words_is_valid : List Str := ["self", "names", "constraint", "__class__", "columns", "own", "moves", "ends", "row", "end", "move"]
theorem ns_Words_is_valid : SupC.CScope n_Words_is_valid ["self", "names", "constraint"] (defScope s_Words_is_valid) := SupC.cscope_by (by decide +kernel)
abbrev s_Words_holds : Stmt := inClass (topS 15) 3
abbrev n_Words_holds : List Str := ["self", "constraint", "assignment", "state"]
theorem sc_Words_holds : FnScope n_Words_holds ["self", "constraint", "assignment"] (defScope s_Words_holds) := ⟨rfl, rfl, rfl, by decide +kernel, rfl, by decide +kernel, by decide +kernel⟩
abbrev s_Words_rename : Stmt := inClass (topS 15) 5
abbrev n_Words_rename : List Str := ["self", "theory", "table", "renamed", "names", "machines", "machine"]
theorem sc_Words_rename : FnScope n_Words_rename ["self", "theory", "table"] (defScope s_Words_rename) := ⟨rfl, rfl, rfl, by decide +kernel, rfl, by decide +kernel, by decide +kernel⟩
abbrev s__law_source : Stmt := topS 17
abbrev n__law_source : List Str := ["_law_script", "_law_k", "_law_number"]
theorem sc__law_source : FnScope n__law_source ["_law_script", "_law_k"] (defScope s__law_source) := ⟨rfl, rfl, rfl, by decide +kernel, rfl, by decide +kernel, by decide +kernel⟩
abbrev s__law_draw : Stmt := topS 18
abbrev n__law_draw : List Str := ["_law_source_here", "_law_limit", "_law_number", "_law_mixed"]
theorem sc__law_draw : FnScope n__law_draw ["_law_source_here", "_law_limit"] (defScope s__law_draw) := ⟨rfl, rfl, rfl, by decide +kernel, rfl, by decide +kernel, by decide +kernel⟩
abbrev s__law_pool : Stmt := topS 19
abbrev n__law_pool : List Str := []
theorem sc__law_pool : FnScope n__law_pool [] (defScope s__law_pool) := ⟨rfl, rfl, rfl, by decide +kernel, rfl, by decide +kernel, by decide +kernel⟩
abbrev s__law_machine : Stmt := topS 20
abbrev n__law_machine : List Str := ["_law_source_here", "_law_names", "_law_states", "_law_low", "_law_moves", "_law_state", "_law_ends", "_law_row", "_law_column", "_law_name"]
theorem sc__law_machine : FnScope n__law_machine ["_law_source_here"] (defScope s__law_machine) := ⟨rfl, rfl, rfl, by decide +kernel, rfl, by decide +kernel, by decide +kernel⟩
abbrev s__law_words : Stmt := topS 21
abbrev n__law_words : List Str := ["_law_source_here", "_law_length", "_law_found", "_law_name", "_law_word", "_law_index"]
theorem sc__law_words : FnScope n__law_words ["_law_source_here"] (defScope s__law_words) := ⟨rfl, rfl, rfl, by decide +kernel, rfl, by decide +kernel, by decide +kernel⟩
abbrev s__law_columns : Stmt := topS 22
abbrev n__law_columns : List Str := ["_law_names", "_law_words_here", "_law_numbers", "_law_index", "_law_number", "_law_name"]
theorem sc__law_columns : FnScope n__law_columns ["_law_names", "_law_words_here"] (defScope s__law_columns) := ⟨rfl, rfl, rfl, by decide +kernel, rfl, by decide +kernel, by decide +kernel⟩
abbrev s__law_last : Stmt := topS 23
abbrev n__law_last : List Str := ["_law_machine_here", "_law_numbers", "_law_state", "_law_number"]
theorem sc__law_last : FnScope n__law_last ["_law_machine_here", "_law_numbers"] (defScope s__law_last) := ⟨rfl, rfl, rfl, by decide +kernel, rfl, by decide +kernel, by decide +kernel⟩
abbrev s__law_is_int : Stmt := topS 24
abbrev n__law_is_int : List Str := ["_law_actual", "_law_expected"]
theorem sc__law_is_int : FnScope n__law_is_int ["_law_actual", "_law_expected"] (defScope s__law_is_int) := ⟨rfl, rfl, rfl, by decide +kernel, rfl, by decide +kernel, by decide +kernel⟩
abbrev s__law_same_row : Stmt := topS 25
abbrev n__law_same_row : List Str := ["_law_actual", "_law_expected", "_law_k"]
theorem sc__law_same_row : FnScope n__law_same_row ["_law_actual", "_law_expected"] (defScope s__law_same_row) := ⟨rfl, rfl, rfl, by decide +kernel, rfl, by decide +kernel, by decide +kernel⟩
abbrev s__law_is_bool : Stmt := topS 26
abbrev n__law_is_bool : List Str := ["_law_actual", "_law_expected"]
theorem sc__law_is_bool : FnScope n__law_is_bool ["_law_actual", "_law_expected"] (defScope s__law_is_bool) := ⟨rfl, rfl, rfl, by decide +kernel, rfl, by decide +kernel, by decide +kernel⟩
abbrev s__law_reading_right : Stmt := topS 27
abbrev n__law_reading_right : List Str := ["_law_machine_here", "_law_words_here", "_law_numbers", "_law_names", "_law_columns_here", "_law_before", "_law_read", "_law_last_here", "_law_passed", "_law_name"]
theorem sc__law_reading_right : FnScope n__law_reading_right ["_law_machine_here", "_law_words_here", "_law_numbers"] (defScope s__law_reading_right) := ⟨rfl, rfl, rfl, by decide +kernel, rfl, by decide +kernel, by decide +kernel⟩
abbrev s__law_spoilt : Stmt := topS 28
abbrev n__law_spoilt : List Str := ["_law_source_here", "_law_machine_here", "_law_names", "_law_rows", "_law_ends", "_law_at", "_law_column", "_law_way", "_law_row"]
theorem sc__law_spoilt : FnScope n__law_spoilt ["_law_source_here", "_law_machine_here"] (defScope s__law_spoilt) := ⟨rfl, rfl, rfl, by decide +kernel, rfl, by decide +kernel, by decide +kernel⟩
abbrev s__law_valid_right : Stmt := topS 29
abbrev n__law_valid_right : List Str := ["_law_source_here", "_law_machine_here", "_law_pool_here", "_law_name", "_law_k", "_law_others", "_law_other"]
theorem sc__law_valid_right : FnScope n__law_valid_right ["_law_source_here", "_law_machine_here"] (defScope s__law_valid_right) := ⟨rfl, rfl, rfl, by decide +kernel, rfl, by decide +kernel, by decide +kernel⟩
abbrev s__law_table : Stmt := topS 30
abbrev n__law_table : List Str := ["_law_source_here", "_law_table_here", "_law_free", "_law_renamed_here", "_law_name", "_law_choices", "_law_other"]
theorem sc__law_table : FnScope n__law_table ["_law_source_here"] (defScope s__law_table) := ⟨rfl, rfl, rfl, by decide +kernel, rfl, by decide +kernel, by decide +kernel⟩
abbrev s__law_letters : Stmt := topS 31
abbrev n__law_letters : List Str := ["_law_count", "_law_found", "_law_k", "_law_longer", "_law_letters_here"]
theorem sc__law_letters : FnScope n__law_letters ["_law_count"] (defScope s__law_letters) := ⟨rfl, rfl, rfl, by decide +kernel, rfl, by decide +kernel, by decide +kernel⟩
abbrev s__law_renamed : Stmt := topS 32
abbrev n__law_renamed : List Str := ["_law_machine_here", "_law_table_here", "_law_fresh", "_law_ordered", "_law_rows", "_law_row", "_law_changed", "_law_letters_here", "_law_name", "_law_number"]
theorem sc__law_renamed : FnScope n__law_renamed ["_law_machine_here", "_law_table_here"] (defScope s__law_renamed) := ⟨rfl, rfl, rfl, by decide +kernel, rfl, by decide +kernel, by decide +kernel⟩
abbrev s__law_same_machine : Stmt := topS 33
abbrev n__law_same_machine : List Str := ["_law_actual", "_law_expected", "_law_k"]
theorem sc__law_same_machine : FnScope n__law_same_machine ["_law_actual", "_law_expected"] (defScope s__law_same_machine) := ⟨rfl, rfl, rfl, by decide +kernel, rfl, by decide +kernel, by decide +kernel⟩
abbrev s__law_rename_right : Stmt := topS 34
abbrev n__law_rename_right : List Str := ["_law_machine_here", "_law_other", "_law_table_here", "_law_before", "_law_actual", "_law_name"]
theorem sc__law_rename_right : FnScope n__law_rename_right ["_law_machine_here", "_law_other", "_law_table_here"] (defScope s__law_rename_right) := ⟨rfl, rfl, rfl, by decide +kernel, rfl, by decide +kernel, by decide +kernel⟩
abbrev s_law : Stmt := topS 35
abbrev n_law : List Str := ["_law_script", "_law_source_here", "_law_machine_here", "_law_words_here", "_law_other", "_law_numbers", "_law_k"]
theorem sc_law : FnScope n_law ["_law_script"] (defScope s_law) := ⟨rfl, rfl, rfl, by decide +kernel, rfl, by decide +kernel, by decide +kernel⟩
/-! ### renaming -/
abbrev Tb := List (Str × Str)
def tbV (t : Tb) : List (Key × V) := t.map fun p => (.inr p.1, .str p.2)
def rn (t : Tb) (z : Str) : Str := ((t.find? fun p => decide (p.1 = z)).map (·.2)).getD z
theorem val_tb : ∀ (t : Tb) (z : Str), (valV (tbV t) (.inr z)).getD (.str z) = .str (rn t z)
  | [], _ => rfl
  | p :: r, z => by
    have ih := val_tb r z
    unfold rn
    by_cases e : p.1 = z
    · have e2 : ((.inr p.1 : Key), V.str p.2).1 = .inr z := congrArg Sum.inr e
      show (valV (((.inr p.1 : Key), V.str p.2) :: tbV r) (.inr z)).getD _ = _
      rw [valV_pos e2, List.find?_cons, decide_eq_true e]
      rfl
    · have e2 : ¬ ((.inr p.1 : Key), V.str p.2).1 = .inr z := fun h => e (Sum.inr.inj h)
      show (valV (((.inr p.1 : Key), V.str p.2) :: tbV r) (.inr z)).getD _ = _
      rw [valV_neg e2, List.find?_cons, decide_eq_false e]
      exact ih
section
variable {P : Program} {w : World} {K : PySem.W.Frag} {mg : Str → Option Value} {base : Heap}
@[irreducible] def spRepl (K : PySem.W.Frag) : Sp := fun vs H Q _ => ∃ (a d : Addr) (ns : List Str) (t : Tb), vs = [.ref a, .ref d] ∧ (SqL K H a (ns.map V.str) ∨ SqT K H a (ns.map V.str)) ∧ H d = some (.dK (tbV t)) ∧ ns.length ≤ 100 ∧ ∀ r H', Same H H' → H r = none → H' r = some (.lst ((ns.map (rn t)).map V.str)) → Q (.ref r) H'
theorem ok_repl {f : Addr} {fd : FuncData} (F : Fun K "replace_names" "replace_names" s_replace_names f fd) : FnOk P w K mg base CX0 1 f fd ["names", "table"] (spRepl K) := by
  refine F.ok sc_replace_names (fun vs H Q E h => ?_) (fun cdv A outer s H vs Q E hr h => ?_)
  · unfold spRepl at h
    obtain ⟨a, d, ns, t, rfl, _⟩ := h
    rfl
  · unfold spRepl at h
    obtain ⟨a, d, ns, t, rfl, ha, hd, hl, q⟩ := h
    have hu := hu_of hr
    refine ⟨_, (pss_one (ps_ret (pe_lc (own := [("name", 2)]) (tt := tYes) rfl sc_replace_names.nd (pi_seq (pv 0)) (blkOk_by (N := n_replace_names) (sc := defScope s_replace_names) (by decide +kernel)) (fun _ _ _ _ _ => pg_name (i := 2) sc_replace_names.nd rfl (Or.inl rfl)) (fun _ _ _ _ _ => pts_nil) (fun _ _ _ _ _ => (pe_dget2 hu (pv 1) (pv 2) (pv 2) ⟨rfl, rfl, rfl, rfl⟩))))), ?_⟩
    walk_at "rd"
    refine seq_case ha fun J G wk hG D hD => ?_
    have hdD : d ≠ D := fun e => by rw [e, hD] at hd; cases hd
    refine lc_it wk (fun i H' => H' = upd H D (.lst (((ns.take i).map (rn t)).map V.str))) rfl (fun i H' _ e => e ▸ hG _ (same_new hD)) ?_ ?_
    · rintro i v H2 H3 hi rfl ⟨rfl, hx⟩
      obtain ⟨z, hz, rfl⟩ := at_map hx
      refine ⟨rfl, ?_⟩
      walk_at "rd"
      have hd2 : (upd H D (.lst (((ns.take i).map (rn t)).map V.str))) d = some (.dK (tbV t)) := by
        rw [upd_ne hdD]
        exact hd
      refine ⟨.inl ⟨_, .inl hd2⟩, ?_⟩
      walk_at "rd"
      refine ⟨_, DGet.k (k := .inr z) hd2, ?_⟩
      rw [val_tb]
      refine ⟨_, upd_same, ?_, ?_⟩
      · rw [List.length_map, List.length_map]
        exact szl (Nat.lt_of_le_of_lt (List.length_take_le' i ns) (by omega))
      · rw [upd_upd, List.take_add_one, hz, List.map_append, List.map_append]
        rfl
    rintro H2 rfl
    rw [List.length_map, List.take_length]
    exact q D _ (same_new hD) hD upd_same
/-! ### merge_names -/
def spMerge0 (K : PySem.W.Frag) : Sp := fun vs H Q _ => ∃ (p : Addr) (L : List (Addr × List Str)), vs = [.ref p] ∧ SqT K H p (L.map fun q => V.ref q.1) ∧ (∀ q ∈ L, SqL K H q.1 (q.2.map V.str) ∨ SqT K H q.1 (q.2.map V.str)) ∧ (L.map fun q => q.2).flatten.length ≤ 3000 ∧
  ∀ r H' ys, Same H H' → H r = none → PlT H' r (ys.map V.str) → sortedS ys = true → ys.Nodup → (∀ x, x ∈ ys ↔ x ∈ (L.map fun q => q.2).flatten) → Q (.ref r) H'
def spMerge (K : PySem.W.Frag) : Sp := fun vs H Q _ => ∃ (L : List (Addr × List Str)), vs = L.map (fun q => V.ref q.1) ∧ (∀ q ∈ L, SqL K H q.1 (q.2.map V.str) ∨ SqT K H q.1 (q.2.map V.str)) ∧ L.length ≤ 1000 ∧ (L.map fun q => q.2).flatten.length ≤ 3000 ∧
  ∀ r H' ys, Same H H' → H r = none → PlT H' r (ys.map V.str) → sortedS ys = true → ys.Nodup → (∀ x, x ∈ ys ↔ x ∈ (L.map fun q => q.2).flatten) → Q (.ref r) H'
theorem ok_merge_names {f : Addr} {fd : FuncData} (F : Fun K "merge_names" "merge_names" s_merge_names f fd) (m_set : mg "set" = none) (m_sorted : mg "sorted" = none) (m_tuple : mg "tuple" = none) : FnR P w K mg base CX0 1 f (spMerge K) := by
  have z := okStar (P := P) (w := w) (K := K) (mg := mg) (base := base) (sp := spMerge0 K) (k := 0) F sc_merge_names (fun _ _ _ _ _ _ rest => match rest with | [] => rfl | _ :: _ => rfl) (fun cdv A outer s H vs Q E hr h => ?_)
  · refine z.imp fun vs H Q E h => ?_
    obtain ⟨L, rfl, hL, hl, hn, q⟩ := h
    refine ⟨by rw [List.length_map]; exact sz (by omega), fun p np => ⟨p, L, rfl, sqt upd_same, fun x hx => (hL x hx).imp (Same.seq (same_new np)) (Bx.Same.tup (same_new np)), hn, fun r H' ys s1 n1 => q r H' ys ((same_new np).trans s1) ((same_new np).free n1)⟩⟩
  · obtain ⟨p, L, rfl, hT, hL, hn, q⟩ := h
    refine ⟨_, (pss_one (ps_ret (pe_callTy (T := "tuple") call_tupleF (by rfl) m_tuple (by decide +kernel) (pa_cons (pe_callB (id := "sorted") (Sx.cr_sortX rfl) (by rfl) m_sorted (by decide +kernel) (pa_cons (pe_callTy (T := "set") (Sx.cr_setX rfl) (by rfl) m_set (by decide +kernel) (pa_cons (pe_lc2 (own := [("names", 1), ("name", 2)]) (vs1 := [2]) (wi1 := iSeq K (tVar 1)) (tt := tYes) (tt1 := tYes) rfl sc_merge_names.nd (pi_tup (pv 0)) (blkOk_by (N := n_merge_names) (sc := defScope s_merge_names) (by decide +kernel)) (by decide) (fun _ _ _ _ _ => pg_name (i := 1) sc_merge_names.nd rfl (Or.inl rfl)) (fun _ _ _ _ _ => pts_nil) (fun _ _ _ _ _ => (pi_seq (pv 1))) (fun _ _ _ _ _ => pg_name (i := 2) sc_merge_names.nd rfl (Or.inl rfl)) (fun _ _ _ _ _ => pts_nil) (fun _ _ _ _ _ => (pv 2))) pa_nil)) pa_nil)) pa_nil)))), ?_⟩
    walk_at "rd"
    refine ⟨⟨_, hT⟩, fun D hD => ?_⟩
    refine walk_any (walk_tup (K := K) (a := p) (xs := L.map fun q => V.ref q.1)) (fun i H' => Same H H' ∧ H' D = some (.lst (((L.take i).map fun q => q.2).flatten.map V.str))) ⟨same_new hD, by rw [upd_same]; rfl⟩ (fun i H' _ h => Bx.Same.tup h.1 hT) ?_ ?_
    · rintro i x H1 H2 hi ⟨hs, hd⟩ ⟨rfl, hx⟩
      rw [List.length_map] at hi
      obtain ⟨y, hy, rfl⟩ : ∃ y, L[i]? = some y ∧ x = .ref y.1 := by
        rw [List.getElem?_map, List.getElem?_eq_getElem hi] at hx
        exact ⟨_, List.getElem?_eq_getElem hi, (Option.some.inj hx).symm⟩
      refine ⟨rfl, ?_⟩
      have hy2 := hL y (List.mem_of_getElem? hy)
      have hfl : ((L.take (i + 1)).map fun q => q.2).flatten = ((L.take i).map fun q => q.2).flatten ++ y.2 := by
        rw [List.take_add_one, hy, List.map_append, List.flatten_append]
        simp
      have hle : ∀ j, (((L.take j).map fun q => q.2).flatten).length ≤ 3000 := fun j => by
        have e := List.take_append_drop j L
        have e2 : (L.map fun q => q.2).flatten.length = ((L.take j).map fun q => q.2).flatten.length + ((L.drop j).map fun q => q.2).flatten.length := by
          rw [← List.length_append, ← List.flatten_append, ← List.map_append, e]
        omega
      walk_at "rd"
      have hstep : ∀ (j : Nat) (x : V) (H1 : Hp), (y.2.map V.str)[j]? = some x → Same H H1 ∧ H1 D = some (.lst ((((L.take i).map fun q => q.2).flatten ++ y.2.take j).map V.str)) →
          ∃ acc, H1 D = some (.lst acc) ∧ acc.length < sizeLine ∧ Same H (upd H1 D (.lst (acc ++ [x]))) ∧ (upd H1 D (.lst (acc ++ [x]))) D = some (.lst ((((L.take i).map fun q => q.2).flatten ++ y.2.take (j + 1)).map V.str)) := by
        rintro j x H1 hj ⟨h1, h2⟩
        refine ⟨_, h2, ?_, same_at hD h1, ?_⟩
        · have e1 := hle (i + 1)
          rw [hfl, List.length_append] at e1
          rw [List.length_map, List.length_append, List.length_take]
          exact szl (by omega)
        · obtain ⟨u, hu, rfl⟩ : ∃ u, y.2[j]? = some u ∧ x = .str u := by
            rw [List.getElem?_map] at hj
            cases e : y.2[j]? with
            | none =>
              rw [e] at hj
              cases hj
            | some u =>
              rw [e] at hj
              exact ⟨u, rfl, (Option.some.inj hj).symm⟩
          rw [upd_same, List.take_add_one, hu, ← List.append_assoc, List.map_append (l₂ := (some u).toList)]
          rfl
      have hend : ∀ H1, Same H H1 ∧ H1 D = some (.lst ((((L.take i).map fun q => q.2).flatten ++ y.2.take (y.2.map V.str).length).map V.str)) → Same H H1 ∧ H1 D = some (.lst (((L.take (i + 1)).map fun q => q.2).flatten.map V.str)) := by
        rintro H1 ⟨h1, h2⟩
        rw [List.length_map, List.take_length, ← hfl] at h2
        exact ⟨h1, h2⟩
      have h0 : Same H H2 ∧ H2 D = some (.lst ((((L.take i).map fun q => q.2).flatten ++ y.2.take 0).map V.str)) := by
        rw [List.take_zero, List.append_nil]
        exact ⟨hs, hd⟩
      rcases hy2 with hl | ht
      · refine .inl ⟨⟨_, hs.seq hl⟩, walk_any walk_list (fun j H1 => Same H H1 ∧ H1 D = some (.lst ((((L.take i).map fun q => q.2).flatten ++ y.2.take j).map V.str))) h0 (fun j H' _ h => h.1.seq hl) ?_ hend⟩
        rintro j x H1 H' hj hp ⟨rfl, hx⟩
        refine ⟨rfl, ?_⟩
        walk_at "rd"
        exact hstep j x _ hx hp
      · refine .inr ⟨⟨_, Bx.Same.tup hs ht⟩, walk_any walk_tup (fun j H1 => Same H H1 ∧ H1 D = some (.lst ((((L.take i).map fun q => q.2).flatten ++ y.2.take j).map V.str))) h0 (fun j H' _ h => Bx.Same.tup h.1 ht) ?_ hend⟩
        rintro j x H1 H' hj hp ⟨rfl, hx⟩
        refine ⟨rfl, ?_⟩
        walk_at "rd"
        exact hstep j x _ hx hp
    · rintro H1 ⟨hs, hd⟩
      rw [List.length_map, List.take_length] at hd
      refine ⟨_, _, rfl, .inl (sq hd), by omega, fun p1 ys n1 hm nd hlen => ?_⟩
      refine ⟨_, _, rfl, upd_same, by omega, fun zs p2 pm hst n2 => ?_⟩
      refine ⟨_, _, rfl, sq upd_same, fun r o nr od => ?_⟩
      have s3 : Same H (upd (upd (upd H1 p1 (Sx.SetV P w p1 ys)) p2 (.lst (zs.map V.str))) r (.frz o (.tup (zs.map V.str)))) := ((hs.trans (same_new n1)).trans (same_new n2)).trans (same_new nr)
      refine q r _ zs s3 (((hs.trans (same_new n1)).trans (same_new n2)).free nr) ⟨o, upd_same, od⟩ hst (pm.nodup_iff.mpr nd) fun x => ?_
      rw [pm.mem_iff, hm x]
end
theorem eqv_strs : ∀ (l m : List Str), PyData.eqvAll (l.map PyData.str) (m.map PyData.str) = decide (l = m)
  | [], [] => rfl
  | [], y :: m => rfl
  | x :: l, [] => rfl
  | x :: l, y :: m => by
    show ((x == y) && PyData.eqvAll (l.map PyData.str) (m.map PyData.str)) = _
    rw [eqv_strs l m]
    by_cases h : x = y
    · subst h
      by_cases h2 : l = m
      · subst h2
        simp
      · simp [h2]
    · simp [h]
def ascB (l : List Str) : Bool := decide (l.Pairwise fun x y => x.cps.toList < y.cps.toList)
theorem ascB_iff {l : List Str} : ascB l = true ↔ Asc l := decide_eq_true_iff
section
variable {P : Program} {w : World} {K : PySem.W.Frag} {mg : Str → Option Value} {base : Heap}
def spAsc (K : PySem.W.Frag) : Sp := fun vs H Q _ => ∃ (a : Addr) (ns : List Str), vs = [.ref a] ∧ (SqL K H a (ns.map V.str) ∨ SqT K H a (ns.map V.str)) ∧ ns.length ≤ 1000 ∧ (∀ x ∈ ns, PyData.strOk x = true) ∧ ∀ H', Same H H' → Q (.bl (ascB ns)) H'
theorem ok_is_ascending {f : Addr} {fd : FuncData} (F : Fun K "is_ascending" "is_ascending" s_is_ascending f fd) (m_list : mg "list" = none) (m_set : mg "set" = none) (m_sorted : mg "sorted" = none) : FnOk P w K mg base CX0 1 f fd ["values"] (spAsc K) := by
  refine F.ok sc_is_ascending (fun vs H Q E h => ?_) (fun cdv A outer s H vs Q E hr h => ?_)
  · obtain ⟨a, ns, rfl, _⟩ := h
    rfl
  · obtain ⟨a, ns, rfl, hs, hl, hok, q⟩ := h
    refine ⟨_, (pss_one (ps_ret (pe_cmpR (op_eqD hr.units) (pe_callTy (T := "list") call_list_of (by rfl) m_list (by decide +kernel) (pa_cons (pv 0) pa_nil)) (pe_callB (id := "sorted") (Sx.cr_sortX rfl) (by rfl) m_sorted (by decide +kernel) (pa_cons (pe_callTy (T := "set") (Sx.cr_setX rfl) (by rfl) m_set (by decide +kernel) (pa_cons (pv 0) pa_nil)) pa_nil)) (nomark _)))), ?_⟩
    walk_at "rd"
    refine ⟨_, _, rfl, hs, fun p np => ?_⟩
    have s1 : Same H (upd H p (.lst (ns.map V.str))) := same_new np
    walk_at "rd"
    refine ⟨a, ns, rfl, hs.imp (Same.seq s1) (Bx.Same.tup s1), by omega, fun p2 ys n2 hm nd hlen => ?_⟩
    walk_at "rd"
    have s2 := Same.trans s1 (same_new n2 (o := Sx.SetV P w p2 ys))
    refine ⟨_, ys, rfl, upd_same, by omega, fun zs p3 pm st n3 => ?_⟩
    have s3 := Same.trans s2 (same_new n3 (o := .lst (zs.map V.str)))
    have hp3 := (Same.trans (same_new n2 (o := Sx.SetV P w p2 ys)) (same_new n3 (o := .lst (zs.map V.str)))) p _ upd_same
    have hzm : ∀ x, x ∈ zs ↔ x ∈ ns := fun x => pm.mem_iff.trans (hm x)
    have hza : Asc zs := asc_of st (pm.nodup_iff.mpr nd)
    have l1 : Lay 1 (.list (ns.map PyData.str)) := lay_list (lays_strs hok)
    have l2 : Lay 1 (.list (zs.map PyData.str)) := lay_list (lays_strs fun x hx => hok x ((hzm x).mp hx))
    refine ⟨_, _, .lst (sq hp3) (dp_strs ns), .lst (sq upd_same) (dp_strs zs), shape l1 (by decide), shape l2 (by decide), ?_⟩
    have e : PyData.eqv (.list (ns.map PyData.str)) (.list (zs.map PyData.str)) = ascB ns := by
      show PyData.eqvAll _ _ = _
      rw [eqv_strs]
      by_cases h : Asc ns
      · rw [ascB_iff.mpr h, decide_eq_true (asc_eq h hza fun x => (hzm x).symm)]
      · rw [Bool.eq_false_iff.mpr fun z => h (ascB_iff.mp z), decide_eq_false fun z : ns = zs => h (z ▸ hza)]
    rw [e]
    exact q _ s3
end
end K36
namespace K36
local macro_rules | `(tactic| walk_at "rd") => `(tactic| repeat (first | refine ⟨rfl, ?_⟩ | refine ⟨_, rfl, ?_⟩ | refine ⟨_, _, rfl, rfl, ?_⟩ | refine ⟨⟨_, rfl⟩, ?_⟩))
open PySem PySem.Spec PyProof.Rows L2 Bx TL Dx Zx Ow Sup NdefX Px
/-! ### words and columns -/
abbrev emp : Str := Str.ofString ""
abbrev Wd := List (Str × Str)
def wkV (n : Nat) (ws : Wd) : List (Key × V) := (.inr emp, .int (n : Nat)) :: ws.map fun p => (.inr p.1, .str p.2)
def wd (ws : Wd) (z : Str) : Str := ((ws.find? fun p => decide (p.1 = z)).map (·.2)).getD emp
theorem val_w : ∀ (ws : Wd) (z : Str), z ∈ ws.map (·.1) → valV (ws.map fun p => ((.inr p.1 : Key), V.str p.2)) (.inr z) = some (.str (wd ws z))
  | [], _, h => by cases h
  | p :: r, z, h => by
    unfold wd
    by_cases e : p.1 = z
    · have e2 : ((.inr p.1 : Key), V.str p.2).1 = .inr z := congrArg Sum.inr e
      show valV (((.inr p.1 : Key), V.str p.2) :: _) (.inr z) = _
      rw [valV_pos e2, List.find?_cons, decide_eq_true e]
      rfl
    · have e2 : ¬ ((.inr p.1 : Key), V.str p.2).1 = .inr z := fun h => e (Sum.inr.inj h)
      show valV (((.inr p.1 : Key), V.str p.2) :: _) (.inr z) = _
      rw [valV_neg e2, List.find?_cons, decide_eq_false e]
      refine val_w r z ?_
      rcases List.mem_cons.mp h with h | h
      · exact absurd h.symm e
      · exact h
theorem wk_len (n : Nat) (ws : Wd) : valV (wkV n ws) (.inr emp) = some (.int (n : Nat)) := valV_pos rfl
theorem wk_word {n : Nat} {ws : Wd} {z : Str} (h : z ∈ ws.map (·.1)) (hz : z ≠ emp) : valV (wkV n ws) (.inr z) = some (.str (wd ws z)) := by
  unfold wkV
  rw [valV_neg (fun e => hz (Sum.inr.inj e).symm)]
  exact val_w ws z h
def Wok (n : Nat) (ws : Wd) (ns : List Str) : Prop := ∀ z ∈ ns, z ≠ emp ∧ z ∈ ws.map (·.1) ∧ (wd ws z).length = n
def isB (c : Nat) : Bool := decide (c = 98)
theorem isb_dec (c : Nat) : decide (V.str ⟨#[c]⟩ = V.str (Str.ofString "b")) = isB c := by
  unfold isB
  have e : Str.ofString "b" = ⟨#[98]⟩ := by decide +kernel
  rw [e]
  refine decide_eq_decide.mpr ⟨fun h => ?_, fun h => by rw [h]⟩
  have h2 := Str.mk.inj (V.str.inj h)
  have h3 : [c] = [98] := congrArg Array.toList h2
  exact (List.cons.inj h3).1
def num (bs : List Bool) : Nat := bs.foldl (fun a b => 2 * a + (if b then 1 else 0)) 0
theorem num_snoc (bs : List Bool) (b : Bool) : num (bs ++ [b]) = 2 * num bs + (if b then 1 else 0) := by
  unfold num
  rw [List.foldl_append]
  rfl
def letr (ws : Wd) (i : Nat) (z : Str) : Nat := (wd ws z).cps.toList.getD i 0
def colN (ws : Wd) (ns : List Str) (i : Nat) : Nat := num (ns.map fun z => isB (letr ws i z))
def cols (n : Nat) (ws : Wd) (ns : List Str) : List Nat := (List.range n).map (colN ws ns)
def natV (k : Nat) : V := .int (k : Nat)
theorem letr_at {n : Nat} {ws : Wd} {ns : List Str} (wo : Wok n ws ns) {z : Str} (hz : z ∈ ns) {i : Nat} (hi : i < n) : atI (wd ws z).cps.toList (i : Int) = some (letr ws i z) := by
  have hl : i < (wd ws z).cps.toList.length := by
    have := (wo z hz).2.2
    have e : (wd ws z).length = (wd ws z).cps.toList.length := by
      show (wd ws z).cps.size = _
      exact Array.length_toList.symm
    omega
  refine atI_nat ?_
  unfold letr
  rw [List.getElem?_eq_getElem hl, List.getD_eq_getElem?_getD, List.getElem?_eq_getElem hl]
  rfl
section
variable {P : Program} {w : World} {K : PySem.W.Frag} {mg : Str → Option Value} {base : Heap}
@[irreducible] def spNum (K : PySem.W.Frag) : Sp := fun vs H Q _ => ∃ (L : Addr) (cs : List Nat), vs = [.ref L] ∧ SqL K H L (cs.map fun c => V.str ⟨#[c]⟩) ∧ Q (natV (num (cs.map isB))) H
theorem ok_number_of {f : Addr} {fd : FuncData} (F : Fun K "_number_of" "_number_of" s__number_of f fd) : FnOk P w K mg base CX0 1 f fd ["letters"] (spNum K) := by
  refine F.ok sc__number_of (fun vs H Q E h => ?_) (fun cdv A outer s H vs Q E hr h => ?_)
  · unfold spNum at h
    obtain ⟨L, cs, rfl, _⟩ := h
    rfl
  · unfold spNum at h
    obtain ⟨L, cs, rfl, hL, q⟩ := h
    refine ⟨_, (pss_cons (ps_set (i := 1) sc__number_of.nd rfl (Or.inl rfl) pe_int)
    (pss_cons (ps_for PassesOwn.never rfl (pi_list (pv 0)) (pg_name (i := 2) sc__number_of.nd rfl (Or.inl rfl))
      (pss_one (ps_set (i := 1) sc__number_of.nd rfl (Or.inl rfl) (pe_op op_add (pe_op op_mul pe_int (pv 1)) (pe_ifExp (pt_cmpR op_eq (pv 2) pe_str (nomark _)) pe_int pe_int)))))
    (pss_one (ps_ret (pv 1))))), ?_⟩
    walk_at "rd"
    refine ⟨⟨_, hL⟩, for_it walk_list (fun i σ H' => ∃ o2 : Option V, σ = [some (.ref L), some (natV (num ((cs.take i).map isB))), o2] ∧ H' = H) ⟨none, rfl, rfl⟩ (fun i σ H' _ ⟨_, _, e⟩ => e ▸ hL) ?_ ?_⟩
    · rintro i x σ H2a H2 hi ⟨o2, rfl, rfl⟩ ⟨rfl, hx⟩
      obtain ⟨c, hc, rfl⟩ := at_map hx
      have e1 : num ((cs.take (i + 1)).map isB) = 2 * num ((cs.take i).map isB) + (if isB c then 1 else 0) := by
        rw [List.take_add_one, hc, List.map_append]
        exact num_snoc _ _
      walk_at "rd"
      refine ⟨.inl ⟨by decide, by decide⟩, ?_⟩
      walk_at "rd"
      rw [isb_dec]
      have go : ∀ j : Int, j = (if isB c then 1 else 0) → ∃ o3 : Option V, [some (V.ref L), some (V.int (2 * ((num ((cs.take i).map isB) : Nat) : Int) + j)), some (V.str ⟨#[c]⟩)] = [some (V.ref L), some (natV (num ((cs.take (i + 1)).map isB))), o3] ∧ H2 = H2 := fun j hj => by
        refine ⟨some (.str ⟨#[c]⟩), ?_, rfl⟩
        have e2 : (2 * ((num ((cs.take i).map isB) : Nat) : Int) + j) = ((num ((cs.take (i + 1)).map isB) : Nat) : Int) := by
          rw [e1, hj]
          split <;> omega
        rw [e2]
        rfl
      cases hb : isB c with
      | true =>
        walk_at "rd"
        exact go 1 (by rw [hb]; rfl)
      | false =>
        walk_at "rd"
        exact go 0 (by rw [hb]; rfl)
    · rintro σ H2 ⟨o2, rfl, rfl⟩
      rw [List.length_map, List.take_length]
      walk_at "rd"
      exact q
/-- the row of letters -/
@[irreducible] def spCols (K : PySem.W.Frag) : Sp := fun vs H Q _ => ∃ (na d : Addr) (ns : List Str) (n : Nat) (ws : Wd), vs = [.ref na, .ref d] ∧ SqT K H na (ns.map V.str) ∧ H d = some (.dK (wkV n ws)) ∧ Wok n ws ns ∧ ns.length ≤ 100 ∧ n ≤ 100 ∧ ∀ r H', Same H H' → SqT K H' r ((cols n ws ns).map natV) → Q (.ref r) H'
set_option maxHeartbeats 2000000 in
theorem ok_column_numbers {f : Addr} {fd : FuncData} (F : Fun K "column_numbers" "column_numbers" s_column_numbers f fd) (m_tuple : mg "tuple" = none) (m_range : mg "range" = none) (C__number_of : Cal P w K mg base "_number_of" 1 ["letters"] (spNum K)) : FnOk P w K mg base CX0 2 f fd ["names", "assignment"] (spCols K) := by
  refine F.ok sc_column_numbers (fun vs H Q E h => ?_) (fun cdv A outer s H vs Q E hr h => ?_)
  · unfold spCols at h
    obtain ⟨na, d, ns, n, ws, rfl, _⟩ := h
    rfl
  · unfold spCols at h
    obtain ⟨na, d, ns, n, ws, rfl, hna, hd, wo, nl, n100, q⟩ := h
    have hu := hu_of hr
    refine ⟨_, (pss_cons (ps_set (i := 2) sc_column_numbers.nd rfl (Or.inr rfl) (pe_lc (own := [("name", 3)]) (tt := tYes) rfl sc_column_numbers.nd (pi_tup (pv 0)) (blkOk_by (N := n_column_numbers) (sc := defScope s_column_numbers) (by decide +kernel)) (fun _ _ _ _ _ => pg_name (i := 3) sc_column_numbers.nd rfl (Or.inl rfl)) (fun _ _ _ _ _ => pts_nil) (fun _ _ _ _ _ => (pe_dget hu (pv 1) (pv 3) (fun _ _ => rfl)))))
    (pss_one (ps_ret (pe_callTy (T := "tuple") call_tuple_of (by rfl) m_tuple (by decide +kernel) (pa_cons (pe_lc (own := [("index", 4)]) (tt := tYes) rfl sc_column_numbers.nd (pi_range1 (by rfl) m_range (pa_cons (pe_dget hu (pv 1) pe_str (fun _ _ => rfl)) pa_nil)) (blkOk_by (N := n_column_numbers) (sc := defScope s_column_numbers) (by decide +kernel)) (fun _ _ _ _ _ => pg_name (i := 4) sc_column_numbers.nd rfl (Or.inr rfl)) (fun _ _ _ _ _ => pts_nil) (fun _ _ _ _ _ => (pe_cal C__number_of (hr.mono (by decide)) (pa_cons (pe_lc (own := [("word", 5)]) (wi := iList K (tVar 2)) (tt := tYes) rfl sc_column_numbers.nd (pi_list (pv 2)) (Nx.blkOk_nest (N := n_column_numbers) (sc := defScope s_column_numbers) rfl (by decide +kernel)) (fun _ _ _ _ _ => pg_name (i := 5) sc_column_numbers.nd rfl (Or.inl rfl)) (fun _ _ _ _ _ => pts_nil) (fun _ _ _ _ _ => (pe_ix ix_str (pv 5) (pv 4) (fun _ _ => rfl)))) pa_nil)))) pa_nil))))), ?_⟩
    walk_at "rd"
    refine ⟨⟨_, hna⟩, fun D hD => ?_⟩
    have hdD : d ≠ D := ne_of_none hd hD
    refine lc_it walk_tup (fun i H' => H' = upd H D (.lst ((ns.take i).map fun z => V.str (wd ws z)))) rfl (fun i H' _ e => e ▸ Bx.Same.tup (same_new hD) hna) ?_ ?_
    · rintro i v H2 H3 hi rfl ⟨rfl, hx⟩
      obtain ⟨z, hz, rfl⟩ := at_map hx
      have zo := wo z (List.mem_of_getElem? hz)
      refine ⟨rfl, ?_⟩
      walk_at "rd"
      have hd2 : (upd H D (.lst ((ns.take i).map fun z => V.str (wd ws z)))) d = some (.dK (wkV n ws)) := by
        rw [upd_ne hdD]
        exact hd
      refine ⟨_, V.str (wd ws z), rfl, by rw [← wk_word (n := n) zo.2.1 zo.1]; exact DGet.k (k := .inr z) hd2, ?_⟩
      refine ⟨_, upd_same, ?_, ?_⟩
      · rw [List.length_map]
        exact szl (Nat.lt_of_le_of_lt (List.length_take_le' i ns) (by omega))
      · rw [upd_upd, List.take_add_one, hz, List.map_append]
        rfl
    rintro H2 rfl
    rw [List.length_map, List.take_length]
    have s1 := same_new hD (o := .lst (ns.map fun z => V.str (wd ws z)))
    have hW := upd_same (H := H) (a := D) (o := .lst (ns.map fun z => V.str (wd ws z)))
    have hd1 := s1 _ _ hd
    generalize upd H D (.lst (ns.map fun z => V.str (wd ws z))) = H1 at s1 hW hd1 ⊢
    walk_at "rd"
    refine ⟨_, .int (n : Nat), rfl, by rw [← wk_len n ws]; exact DGet.k (k := .inr emp) hd1, ?_⟩
    walk_at "rd"
    refine ⟨by omega, by omega, fun D2 hD2 => ?_⟩
    refine lc_it walk_range (fun i H' => Same H1 H' ∧ H' D2 = some (.lst (((List.range i).map (colN ws ns)).map natV))) ⟨same_new hD2, upd_same⟩ (fun _ _ _ _ => trivial) ?_ ?_
    · rintro i v H2a H2 hi ⟨s2, hM⟩ ⟨rfl, rfl⟩
      have hi2 : i < n := by omega
      refine ⟨rfl, ?_⟩
      walk_at "rd"
      have hW2 := s2 _ _ hW
      refine ⟨⟨_, sq hW2⟩, fun D3 hD3 => ?_⟩
      refine lc_it walk_list (fun j H' => H' = upd H2 D3 (.lst ((ns.take j).map fun z => V.str ⟨#[letr ws i z]⟩))) rfl (fun j H' _ e => e ▸ sq (same_new hD3 _ _ hW2)) ?_ ?_
      · rintro j v H4a H4 hj rfl ⟨rfl, hx⟩
        obtain ⟨z, hz, rfl⟩ := at_map hx
        have zm := List.mem_of_getElem? hz
        refine ⟨rfl, ?_⟩
        walk_at "rd"
        refine ⟨_, _, letr ws i z, rfl, rfl, sz (by rw [(wo z zm).2.2]; omega), by rw [Int.zero_add]; exact letr_at wo zm hi2, ?_⟩
        refine ⟨_, upd_same, ?_, ?_⟩
        · rw [List.length_map]
          exact szl (Nat.lt_of_le_of_lt (List.length_take_le' j ns) (by omega))
        · rw [upd_upd, List.take_add_one, hz, List.map_append]
          rfl
      rintro H4 rfl
      rw [List.length_map, List.take_length]
      have s3 := same_new hD3 (o := .lst (ns.map fun z => V.str ⟨#[letr ws i z]⟩))
      walk_at "rd"
      show spNum K _ _ _ _
      unfold spNum
      refine ⟨D3, ns.map (letr ws i), rfl, sq (by rw [upd_same, List.map_map]; rfl), ?_⟩
      have hM3 := s3 _ _ hM
      refine ⟨_, hM3, ?_, same_at hD2 (s2.trans s3), ?_⟩
      · rw [List.length_map, List.length_map, List.length_range]
        exact szl (by omega)
      · rw [upd_same, List.range_succ, List.map_append, List.map_append, List.map_map (f := letr ws i)]
        rfl
    rintro H2 ⟨s2, hM⟩
    walk_at "rd"
    refine ⟨D2, _, rfl, .inl ⟨sq hM, fun r nr => ?_⟩⟩
    exact q r _ (s1.trans (s2.trans (same_new nr))) (sqt upd_same)
end
end K36
namespace K36
local macro_rules | `(tactic| walk_at "rd") => `(tactic| repeat (first | refine ⟨rfl, ?_⟩ | refine ⟨_, rfl, ?_⟩ | refine ⟨_, _, rfl, rfl, ?_⟩ | refine ⟨⟨_, rfl⟩, ?_⟩))
open PySem PySem.Spec PyProof.Rows L2 Bx TL Dx Zx Ow Sup NdefX Px
/-! ### machines as data -/
structure Mc where
  ns : List Str
  rows : List (List Int)
  ends : List Int
def rowD (r : List Int) : PyData := .tuple (r.map PyData.int)
def mcD (m : Mc) : PyData := .tuple [.tuple (m.ns.map PyData.str), .tuple (m.rows.map rowD), .tuple (m.ends.map PyData.int)]
structure MAt (K : PySem.W.Frag) (H : Hp) (p pn pm pe : Addr) (xs : List V) (m : Mc) : Prop where
  t : SqT K H p [.ref pn, .ref pm, .ref pe]
  n : SqT K H pn (m.ns.map V.str)
  r : SqT K H pm xs
  d : DpAll K H xs (m.rows.map rowD)
  e : SqT K H pe (m.ends.map V.int)
theorem row_dp {K : PySem.W.Frag} {H : Hp} {v : V} {r : List Int} (h : Dp K H v (rowD r)) : ∃ q, v = .ref q ∧ SqT K H q (r.map V.int) := by
  obtain ⟨q, xs, rfl, hq, ha⟩ := dp_tup h
  rw [da_ints ha] at hq
  exact ⟨q, rfl, hq⟩
theorem dp_ints (K : PySem.W.Frag) (H : Hp) : ∀ r : List Int, DpAll K H (r.map V.int) (r.map PyData.int)
  | [] => .nil
  | _ :: r => .cons (.int _) (dp_ints K H r)
theorem dp_row {K : PySem.W.Frag} {H : Hp} {q : Addr} {r : List Int} (h : SqT K H q (r.map V.int)) : Dp K H (.ref q) (rowD r) := .tup h (dp_ints K H r)
theorem mc_dp {K : PySem.W.Frag} {H : Hp} {v : V} {m : Mc} (h : Dp K H v (mcD m)) : ∃ p pn pm pe xs, v = .ref p ∧ MAt K H p pn pm pe xs m := by
  obtain ⟨p, ys, rfl, hp, ha⟩ := dp_tup h
  cases ha with
  | cons a1 ha =>
  cases ha with
  | cons a2 ha =>
  cases ha with
  | cons a3 ha =>
  cases ha
  obtain ⟨pn, x1, rfl, h1, d1⟩ := dp_tup a1
  obtain ⟨pm, x2, rfl, h2, d2⟩ := dp_tup a2
  obtain ⟨pe, x3, rfl, h3, d3⟩ := dp_tup a3
  rw [da_strs d1] at h1
  rw [da_ints d3] at h3
  exact ⟨p, pn, pm, pe, x2, rfl, hp, h1, h2, d2, h3⟩
theorem dp_mc {K : PySem.W.Frag} {H : Hp} {p pn pm pe : Addr} {xs : List V} {m : Mc} (h : MAt K H p pn pm pe xs m) : Dp K H (.ref p) (mcD m) :=
  .tup h.t (.cons (names_dp h.n) (.cons (.tup h.r h.d) (da_one (dp_row h.e))))
theorem MAt.same {K : PySem.W.Frag} {H H' : Hp} {p pn pm pe : Addr} {xs : List V} {m : Mc} (h : MAt K H p pn pm pe xs m) (s : Same H H') : MAt K H' p pn pm pe xs m := ⟨Bx.Same.tup s h.t, Bx.Same.tup s h.n, Bx.Same.tup s h.r, dpAll_same s h.d, Bx.Same.tup s h.e⟩
def RowsOk (m : Mc) : Prop := 0 < m.rows.length ∧ ∀ r ∈ m.rows, r.length = 2 ^ m.ns.length ∧ ∀ x ∈ r, -1 ≤ x ∧ x < (m.rows.length : Int)
def stepM (m : Mc) (s : Int) (k : Nat) : Int := if s = -1 then -1 else (m.rows.getD s.toNat []).getD k 0
def runM (m : Mc) (ks : List Nat) : Int := ks.foldl (stepM m) 0
theorem run_snoc (m : Mc) (ks : List Nat) (k : Nat) : runM m (ks ++ [k]) = stepM m (runM m ks) k := by
  unfold runM
  rw [List.foldl_append]
  rfl
theorem da_atM {K : PySem.W.Frag} {H : Hp} {α : Type} {f : α → PyData} : ∀ {xs : List V} {ls : List α}, DpAll K H xs (ls.map f) → ∀ {i : Nat} {v : V}, xs[i]? = some v → ∃ l, ls[i]? = some l ∧ Dp K H v (f l)
  | _, [], h, i, v, e => by
    cases h
    cases e
  | _, c :: cs, h, i, v, e => by
    cases h with
    | cons h1 h2 =>
      cases i with
      | zero =>
        cases e
        exact ⟨c, rfl, h1⟩
      | succ i => exact da_atM h2 e
/-- one step, where it is read -/
theorem step_at {K : PySem.W.Frag} {H : Hp} {p pn pm pe : Addr} {xs : List V} {m : Mc} (h : MAt K H p pn pm pe xs m) (ok : RowsOk m) {s : Int} (s0 : 0 ≤ s) (s1 : s < (m.rows.length : Int)) {k : Nat} (hk : k < 2 ^ m.ns.length) :
    ∃ (q : Addr) (r : List Int), atI xs s = some (.ref q) ∧ SqT K H q (r.map V.int) ∧ atI (r.map V.int) (k : Int) = some (.int (stepM m s k)) ∧ -1 ≤ stepM m s k ∧ stepM m s k < (m.rows.length : Int) := by
  obtain ⟨j, rfl⟩ := Int.eq_ofNat_of_zero_le s0
  have xl : xs.length = m.rows.length := by rw [da_len h.d, List.length_map]
  have hj : j < xs.length := by omega
  have ev := List.getElem?_eq_getElem hj
  obtain ⟨r, hr, dr⟩ := da_atM h.d ev
  obtain ⟨q, eq, hq⟩ := row_dp dr
  have rm := ok.2 r (List.mem_of_getElem? hr)
  have hk2 : k < r.length := by omega
  have e1 : stepM m (j : Int) k = r[k] := by
    unfold stepM
    rw [if_neg (by omega), Int.toNat_natCast, List.getD_eq_getElem?_getD (l := m.rows), hr, Option.getD_some, List.getD_eq_getElem?_getD, List.getElem?_eq_getElem hk2]
    rfl
  have b := rm.2 r[k] (List.getElem_mem hk2)
  refine ⟨q, r, by rw [← eq]; exact atI_nat ev, hq, ?_, by rw [e1]; exact b.1, by rw [e1]; exact b.2⟩
  rw [e1]
  exact atI_nat (by rw [List.getElem?_map, List.getElem?_eq_getElem hk2]; rfl)
section
variable {P : Program} {w : World} {K : PySem.W.Frag} {mg : Str → Option Value} {base : Heap}
@[irreducible] def spRun (K : PySem.W.Frag) : Sp := fun vs H Q _ => ∃ (p a : Addr) (m : Mc) (ks : List Nat), vs = [.ref p, .ref a] ∧ Dp K H (.ref p) (mcD m) ∧ (SqL K H a (ks.map natV) ∨ SqT K H a (ks.map natV)) ∧ RowsOk m ∧ (∀ k ∈ ks, k < 2 ^ m.ns.length) ∧ (-1 ≤ runM m ks → runM m ks < (m.rows.length : Int) → Q (.int (runM m ks)) H)
theorem ok_run {f : Addr} {fd : FuncData} (F : Fun K "run" "run" s_run f fd) : FnOk P w K mg base CX0 1 f fd ["machine", "numbers"] (spRun K) := by
  refine F.ok sc_run (fun vs H Q E h => ?_) (fun cdv A outer s H vs Q E hr h => ?_)
  · unfold spRun at h
    obtain ⟨p, a, m, ks, rfl, _⟩ := h
    rfl
  · unfold spRun at h
    obtain ⟨p, a, m, ks, rfl, hp, ha, ok, hk, q⟩ := h
    obtain ⟨p', pn, pm, pe, xs, ep, M⟩ := mc_dp hp
    cases ep
    refine ⟨_, (pss_cons (ps_set (i := 2) sc_run.nd rfl (Or.inl rfl) pe_int)
    (pss_cons (ps_for PassesOwn.never rfl (pi_seq (pv 1)) (pg_name (i := 3) sc_run.nd rfl (Or.inl rfl))
      (pss_one (ps_if (pt_cmpR op_ne (pv 2) (pe_un un_neg pe_int) (nomark _))
      (pss_one (ps_set (i := 2) sc_run.nd rfl (Or.inl rfl) (pe_ix ix_tup (pe_ix ix_tup (pe_ix ix_tup (pv 0) pe_int (fun _ _ => rfl)) (pv 2) (fun _ _ => rfl)) (pv 3) (fun _ _ => rfl))))
      pss_nil)))
    (pss_one (ps_ret (pv 2))))), ?_⟩
    walk_at "rd"
    refine seq_case ha fun J G wk hG => ?_
    refine for_it wk (fun i σ H' => ∃ o3 : Option V, σ = [some (.ref p), some (.ref a), some (.int (runM m (ks.take i))), o3] ∧ H' = H ∧ -1 ≤ runM m (ks.take i) ∧ runM m (ks.take i) < (m.rows.length : Int)) ⟨none, rfl, rfl, by show (-1 : Int) ≤ 0; decide, by show (0 : Int) < _; have := ok.1; omega⟩ (fun i σ H' _ ⟨_, _, e, _⟩ => e ▸ hG _ (Same.refl H)) ?_ ?_
    · rintro i x σ H2a H2 hi ⟨o3, rfl, rfl, b1, b2⟩ ⟨rfl, hx⟩
      obtain ⟨k, hkk, rfl⟩ := at_map hx
      have e1 : runM m (ks.take (i + 1)) = stepM m (runM m (ks.take i)) k := by
        rw [List.take_add_one, hkk]
        exact run_snoc m _ k
      rw [e1]
      walk_at "rd"
      refine ite2 (fun h6 => ?_) (fun h6 => ?_)
      · have ne : runM m (ks.take i) ≠ -1 := by
          have z : (!decide (V.int (runM m (ks.take i)) = V.int (-1))) = true := h6
          intro e
          rw [e] at z
          simp at z
        obtain ⟨q', r, a1, a2, a3, a4, a5⟩ := step_at M ok (show 0 ≤ runM m (ks.take i) by omega) b2 (hk k (List.mem_of_getElem? hkk))
        walk_at "rd"
        refine ⟨_, _, _, _, rfl, rfl, M.t, atI_nat (j := 1) rfl, ?_⟩
        walk_at "rd"
        refine ⟨_, _, _, _, rfl, rfl, M.r, a1, ?_⟩
        walk_at "rd"
        refine ⟨_, _, _, _, rfl, rfl, a2, a3, ?_⟩
        exact ⟨_, rfl, rfl, a4, a5⟩
      · have e2 : runM m (ks.take i) = -1 := by
          by_cases e : runM m (ks.take i) = -1
          · exact e
          · exact absurd (show (!decide (V.int (runM m (ks.take i)) = V.int (-1))) = true by rw [decide_eq_false (fun z => e (V.int.inj z))]; rfl) h6
        have e3 : stepM m (runM m (ks.take i)) k = runM m (ks.take i) := by
          unfold stepM
          rw [if_pos e2, e2]
        walk_at "rd"
        rw [e3]
        exact ⟨_, rfl, rfl, b1, b2⟩
    · rintro σ H2 ⟨o3, rfl, rfl, b1, b2⟩
      rw [List.length_map, List.take_length] at b1 b2 ⊢
      walk_at "rd"
      exact q b1 b2
/-! ### the law's own reading -/
@[irreducible] def spLCols (K : PySem.W.Frag) : Sp := fun vs H Q _ => ∃ (na d : Addr) (ns : List Str) (n : Nat) (ws : Wd), vs = [.ref na, .ref d] ∧ SqT K H na (ns.map V.str) ∧ H d = some (.dK (wkV n ws)) ∧ Wok n ws ns ∧ ns.length ≤ 100 ∧ n ≤ 100 ∧ ∀ r H', Same H H' → H' r = some (.lst ((cols n ws ns).map natV)) → Q (.ref r) H'
set_option maxHeartbeats 2000000 in
theorem ok_lcolumns {f : Addr} {fd : FuncData} (F : Fun K "_law_columns" "_law_columns" s__law_columns f fd) (m_range : mg "range" = none) : FnOk P w K mg base CX0 2 f fd ["_law_names", "_law_words_here"] (spLCols K) := by
  refine F.ok sc__law_columns (fun vs H Q E h => ?_) (fun cdv A outer s H vs Q E hr h => ?_)
  · unfold spLCols at h
    obtain ⟨na, d, ns, n, ws, rfl, _⟩ := h
    rfl
  · unfold spLCols at h
    obtain ⟨na, d, ns, n, ws, rfl, hna, hd, wo, nl, n100, q⟩ := h
    have hu := hu_of hr
    refine ⟨_, (pss_cons (ps_set (i := 2) sc__law_columns.nd rfl (Or.inl rfl) (pe_lst pa_nil))
    (pss_cons (ps_for PassesOwn.never rfl (pi_range1 (by rfl) m_range (pa_cons (pe_dget hu (pv 1) pe_str (fun _ _ => rfl)) pa_nil)) (pg_name (i := 3) sc__law_columns.nd rfl (Or.inl rfl))
      (pss_cons (ps_set (i := 4) sc__law_columns.nd rfl (Or.inl rfl) pe_int)
    (pss_cons (ps_for PassesOwn.never rfl (pi_tup (pv 0)) (pg_name (i := 5) sc__law_columns.nd rfl (Or.inl rfl))
      (pss_cons (ps_set (i := 4) sc__law_columns.nd rfl (Or.inl rfl) (pe_op op_mul pe_int (pv 4)))
    (pss_one (ps_if (pt_cmpR op_eq (pe_ix ix_str (pe_dget hu (pv 1) (pv 5) (fun _ _ => rfl)) (pv 3) (fun _ _ => rfl)) pe_str (nomark _))
      (pss_one (ps_set (i := 4) sc__law_columns.nd rfl (Or.inl rfl) (pe_op op_add (pv 4) pe_int)))
      pss_nil))))
    (pss_one (ps_expr (pe_bm PySem.F.plainAttrs_list PySem.F.slot_list_append PySem.F.type_list_append mt_append (pv 2) (pa_cons (pv 4) pa_nil)))))))
    (pss_one (ps_ret (pv 2))))), ?_⟩
    walk_at "rd"
    refine ⟨sz (by decide), fun M nM => ?_⟩
    have s1 := same_new nM (o := .lst ([] : List V))
    have hM := upd_same (H := H) (a := M) (o := .lst ([] : List V))
    generalize upd H M (.lst []) = H1 at s1 hM ⊢
    have hd1 := s1 _ _ hd
    walk_at "rd"
    refine ⟨_, .int (n : Nat), rfl, by rw [← wk_len n ws]; exact DGet.k (k := .inr emp) hd1, ?_⟩
    walk_at "rd"
    refine ⟨by omega, by omega, for_it walk_range (fun i σ H' => ∃ (o3 o4 o5 : Option V), σ = [some (.ref na), some (.ref d), some (.ref M), o3, o4, o5] ∧ Same H H' ∧ H' M = some (.lst (((List.range i).map (colN ws ns)).map natV))) ⟨none, none, none, rfl, s1, hM⟩ (fun _ _ _ _ _ => trivial) ?_ ?_⟩
    · rintro i x σ H2a H2 hi ⟨o3, o4, o5, rfl, s2, hM2⟩ ⟨rfl, rfl⟩
      have hi2 : i < n := by omega
      walk_at "rd"
      refine ⟨⟨_, Bx.Same.tup s2 hna⟩, for_it walk_tup (fun j σ H' => ∃ (o5 : Option V), σ = [some (.ref na), some (.ref d), some (.ref M), some (.int (0 + (i : Nat))), some (natV (num ((ns.take j).map fun z => isB (letr ws i z)))), o5] ∧ H' = H2) ⟨o5, rfl, rfl⟩ (fun j σ H' _ ⟨_, _, e⟩ => e ▸ Bx.Same.tup s2 hna) ?_ ?_⟩
      · rintro j x σ H3a H3 hj ⟨o5, rfl, rfl⟩ ⟨rfl, hx⟩
        obtain ⟨z, hz, rfl⟩ := at_map hx
        have zm := List.mem_of_getElem? hz
        have zo := wo z zm
        have e1 : num ((ns.take (j + 1)).map fun z => isB (letr ws i z)) = 2 * num ((ns.take j).map fun z => isB (letr ws i z)) + (if isB (letr ws i z) then 1 else 0) := by
          rw [List.take_add_one, hz, List.map_append]
          exact num_snoc _ _
        walk_at "rd"
        refine ⟨.inl ⟨by decide, by decide⟩, ?_⟩
        walk_at "rd"
        refine ⟨_, V.str (wd ws z), rfl, by rw [← wk_word (n := n) zo.2.1 zo.1]; exact DGet.k (k := .inr z) (s2 _ _ hd), ?_⟩
        walk_at "rd"
        refine ⟨_, _, letr ws i z, rfl, rfl, sz (by rw [zo.2.2]; omega), by rw [Int.zero_add]; exact letr_at wo zm hi2, ?_⟩
        walk_at "rd"
        rw [isb_dec]
        cases hb : isB (letr ws i z) with
        | true =>
          walk_at "rd"
          refine ⟨some (.str z), ?_, rfl⟩
          rw [e1, hb]
          rfl
        | false =>
          walk_at "rd"
          refine ⟨some (.str z), ?_, rfl⟩
          rw [e1, hb]
          rfl
      · rintro σ H3 ⟨o5, rfl, rfl⟩
        rw [List.length_map, List.take_length]
        walk_at "rd"
        refine ⟨.inl ⟨rfl, _, sq hM2⟩, ?_⟩
        walk_at "rd"
        refine ⟨M, _, _, rfl, rfl, hM2, szl (by rw [List.length_map, List.length_map, List.length_range]; omega), ?_⟩
        refine ⟨_, _, _, rfl, same_at nM s2, ?_⟩
        rw [upd_same, List.range_succ, List.map_append, List.map_append]
        rfl
    · rintro σ H2 ⟨o3, o4, o5, rfl, s2, hM2⟩
      walk_at "rd"
      exact q M H2 s2 hM2
end
end K36
namespace K36
local macro_rules | `(tactic| walk_at "rd") => `(tactic| repeat (first | refine ⟨rfl, ?_⟩ | refine ⟨_, rfl, ?_⟩ | refine ⟨_, _, rfl, rfl, ?_⟩ | refine ⟨⟨_, rfl⟩, ?_⟩))
open PySem PySem.Spec PyProof.Rows L2 Bx TL Dx Zx Ow Sup NdefX Px
mutual
def tupD : PyData → Bool
  | .str _ => true
  | .int _ => true
  | .tuple ds => tupAll ds
  | _ => false
def tupAll : List PyData → Bool
  | [] => true
  | d :: ds => tupD d && tupAll ds
end
def Tk (K : PySem.W.Frag) (H H' : Hp) : Prop := ∀ a xs, SqT K H a xs → SqT K H' a xs
theorem tk_same {K : PySem.W.Frag} {H H' : Hp} (s : Same H H') : Tk K H H' := fun _ _ h => Bx.Same.tup s h
theorem Tk.trans {K : PySem.W.Frag} {H H1 H2 : Hp} (a : Tk K H H1) (b : Tk K H1 H2) : Tk K H H2 := fun _ _ h => b _ _ (a _ _ h)
theorem tk_lst {K : PySem.W.Frag} {H : Hp} {p : Addr} {ys : List V} {o : HO} (hp : H p = some (.lst ys)) : Tk K H (upd H p o) := fun a xs h => by
  rcases h with (h | ⟨u, h⟩) | h
  · exact .inl (.inl (by rw [upd_ne fun z => by rw [z, hp] at h; cases h]; exact h))
  · exact .inl (.inr ⟨u, by rw [upd_ne fun z => by rw [z, hp] at h; cases h]; exact h⟩)
  · exact .inr h
mutual
theorem dp_tk {K : PySem.W.Frag} {H H' : Hp} (tk : Tk K H H') : ∀ (d : PyData) (v : V), tupD d = true → Dp K H v d → Dp K H' v d
  | .str _, _, _, h => by
    cases h
    exact .str _
  | .int _, _, _, h => by
    cases h
    exact .int _
  | .tuple ds, _, e, h => by
    cases h with
    | tup hs ha => exact .tup (tk _ _ hs) (da_tk tk ds _ e ha)
  | .none, _, e, _ => by cases e
  | .bool _, _, e, _ => by cases e
  | .list _, _, e, _ => by cases e
  | .dict _, _, e, _ => by cases e
theorem da_tk {K : PySem.W.Frag} {H H' : Hp} (tk : Tk K H H') : ∀ (ds : List PyData) (vs : List V), tupAll ds = true → DpAll K H vs ds → DpAll K H' vs ds
  | [], _, _, h => by
    cases h
    exact .nil
  | d :: ds, _, e, h => by
    have e2 : (tupD d && tupAll ds) = true := e
    rw [Bool.and_eq_true] at e2
    cases h with
    | cons h1 h2 => exact .cons (dp_tk tk d _ e2.1 h1) (da_tk tk ds _ e2.2 h2)
end
theorem tup_row : ∀ r : List Int, tupAll (r.map PyData.int) = true
  | [] => rfl
  | _ :: r => by
    show (true && tupAll (r.map PyData.int)) = true
    rw [tup_row r]
    rfl
theorem tup_strs : ∀ r : List Str, tupAll (r.map PyData.str) = true
  | [] => rfl
  | _ :: r => by
    show (true && tupAll (r.map PyData.str)) = true
    rw [tup_strs r]
    rfl
theorem tup_rows : ∀ rs : List (List Int), tupAll (rs.map rowD) = true
  | [] => rfl
  | r :: rs => by
    show (tupAll (r.map PyData.int) && tupAll (rs.map rowD)) = true
    rw [tup_rows rs, tup_row r]
    rfl
theorem tup_mc (m : Mc) : tupD (mcD m) = true := by
  show (tupAll (m.ns.map PyData.str) && (tupAll (m.rows.map rowD) && (tupAll (m.ends.map PyData.int) && true))) = true
  rw [tup_strs, tup_rows, tup_row]
  rfl
theorem set_gi {te : TE} {i : Nat} {D : Ends} {rest : TS} {σ : List (Option V)} {H : Hp} (R : V → Hp → Prop) (h : ∀ Z : VK, (∀ v H', R v H' → Z v H') → te σ H Z) (k : ∀ v H', R v H' → rest D (σ.set i (some v)) H') : tSeq (tAsg te (gName i)) rest D σ H :=
  h (fun v H' => rest D (σ.set i (some v)) H') k
theorem st_gi {t : TS} {i : Nat} {D : Ends} {rest : TS} {σ : List (Option V)} {H : Hp} (R : V → Hp → Prop) (h : ∀ D' : Ends, (∀ v H', R v H' → D'.nx (σ.set i (some v)) H') → t D' σ H) (k : ∀ v H', R v H' → rest D (σ.set i (some v)) H') : tSeq t rest D σ H :=
  h { D with nx := rest D } k
section
variable {P : Program} {w : World} {K : PySem.W.Frag} {mg : Str → Option Value} {base : Heap}
/-! ### the law's own: draws -/
theorem int_at {ns : List Int} {k : Nat} (h : k < ns.length) : atI (ns.map V.int) (k : Int) = some (V.int ns[k]) := atI_nat (by rw [List.getElem?_map, List.getElem?_eq_getElem h]; rfl)
def spSource (K : PySem.W.Frag) : Sp := fun vs H Q _ => ∃ (a : Addr) (ns : List Int) (k : Nat), vs = [.ref a, .int (k : Int)] ∧ SqL K H a (ns.map V.int) ∧ k ≤ 100 ∧ ∀ p n c, H p = none → Q (.ref p) (upd H p (.lst [.int n, .int c]))
theorem ok_source {f : Addr} {fd : FuncData} (F : Fun K "_law_source" "_law_source" s__law_source f fd) (m_len : mg "len" = none) (m_int : mg "int" = none) : FnOk P w K mg base CX0 1 f fd ["_law_script", "_law_k"] (spSource K) := by
  refine F.ok sc__law_source (fun vs H Q E h => ?_) (fun cdv A outer s H vs Q E hr h => ?_)
  · obtain ⟨a, ns, k, rfl, _⟩ := h
    rfl
  · obtain ⟨a, ns, k, rfl, hS, hk, q⟩ := h
    refine ⟨_, (pss_cons (ps_set (i := 2) sc__law_source.nd rfl (Or.inl rfl) pe_int)
    (pss_cons (ps_if (pt_cmpR op_lt (pv 1) (pe_callB call_len_seq (by rfl) m_len PySem.boot_len (pa_cons (pv 0) pa_nil)) (nomark _))
      (pss_one (ps_set (i := 2) sc__law_source.nd rfl (Or.inl rfl) (pe_callTy (T := "int") call_int1 (by rfl) m_int (by decide +kernel) (pa_cons (pe_ix ix_list (pv 0) (pv 1) (fun _ _ => rfl)) pa_nil))))
      pss_nil)
    (pss_one (ps_ret (pe_lst (pa_cons (pv 2) (pa_cons (pe_op op_add (pe_op op_mul pe_int (pv 1)) (pe_callB call_len_seq (by rfl) m_len PySem.boot_len (pa_cons (pv 0) pa_nil))) pa_nil))))))), ?_⟩
    walk_at "rd"
    refine ⟨_, _, rfl, .inl hS, ?_⟩
    walk_at "rd"
    refine ite2 (fun h0 => ?_) (fun h0 => ?_)
    · have h1 : (k : Int) < ((ns.map V.int).length : Nat) := of_decide_eq_true h0
      rw [List.length_map] at h1
      walk_at "rd"
      refine ⟨_, _, _, _, rfl, rfl, hS, int_at (k := k) (by omega), ?_⟩
      refine .inl ⟨_, rfl, ?_⟩
      walk_at "rd"
      refine ⟨.inr ⟨by omega, by omega⟩, ?_⟩
      walk_at "rd"
      refine ⟨_, _, rfl, .inl hS, ?_⟩
      walk_at "rd"
      exact ⟨sz (by show 2 ≤ 100000; decide), fun p np => q p _ _ np⟩
    · walk_at "rd"
      refine ⟨.inr ⟨by omega, by omega⟩, ?_⟩
      walk_at "rd"
      refine ⟨_, _, rfl, .inl hS, ?_⟩
      walk_at "rd"
      exact ⟨sz (by show 2 ≤ 100000; decide), fun p np => q p _ _ np⟩
theorem modb (x : Int) {k : Int} (h : 0 < k) (h2 : k ≤ 2 ^ 64) : -(2 ^ 64) < x % k ∧ x % k < 2 ^ 64 := by
  have a := Int.emod_nonneg x (show k ≠ 0 by omega)
  have b := Int.emod_lt_of_pos x h
  omega
@[irreducible] def spDraw : Sp := fun vs H Q _ => ∃ (a : Addr) (n c lim : Int), vs = [.ref a, .int lim] ∧ H a = some (.lst [.int n, .int c]) ∧ 0 < lim ∧ lim < 1073741824 ∧ ∀ r n' c', 0 ≤ r → r < lim → Q (.int r) (upd H a (.lst [.int n', .int c']))
theorem ok_draw {f : Addr} {fd : FuncData} (F : Fun K "_law_draw" "_law_draw" s__law_draw f fd) (m_int : mg "int" = none) : FnOk P w K mg base CX0 1 f fd ["_law_source_here", "_law_limit"] spDraw := by
  refine F.ok sc__law_draw (fun vs H Q E h => ?_) (fun cdv A outer s H vs Q E hr h => ?_)
  · unfold spDraw at h
    obtain ⟨a, n, c, lim, rfl, _⟩ := h
    rfl
  · unfold spDraw at h
    obtain ⟨a, n, c, lim, rfl, hA, h0, h1, q⟩ := h
    have hfm : ∀ x : Int, 0 ≤ x.fmod lim ∧ x.fmod lim < lim := fun x => by
      rw [Int.fmod_eq_emod_of_nonneg _ (by omega)]
      exact ⟨Int.emod_nonneg _ (by omega), Int.emod_lt_of_pos _ h0⟩
    refine ⟨_, (pss_cons (ps_set (i := 2) sc__law_draw.nd rfl (Or.inl rfl) (pe_ix ix_list (pv 0) pe_int (fun _ _ => rfl)))
    (pss_cons (ps_if (pt_cmpR op_ge (pv 2) (pe_op op_pow pe_int pe_int) (nomark _))
      (pss_cons (ps_asg (pe_op op_fdivN (pv 2) (pv 1)) (pg_sub (pv 0) pe_int set_list))
    (pss_one (ps_ret (pe_op op_modN (pe_callTy (T := "int") call_int1 (by rfl) m_int (by decide +kernel) (pa_cons (pv 2) pa_nil)) (pv 1)))))
      pss_nil)
    (pss_cons (ps_asg (pe_op op_add (pe_ix ix_list (pv 0) pe_int (fun _ _ => rfl)) pe_int) (pg_sub (pv 0) pe_int set_list))
    (pss_cons (ps_set (i := 3) sc__law_draw.nd rfl (Or.inl rfl) (pe_op op_mod (pe_callTy (T := "int") call_int1 (by rfl) m_int (by decide +kernel) (pa_cons (pe_op op_add (pe_op op_add (pe_op op_mul (pv 2) pe_int) (pe_op op_mul (pe_ix ix_list (pv 0) pe_int (fun _ _ => rfl)) pe_int)) pe_int) pa_nil)) pe_int))
    (pss_cons (ps_set (i := 3) sc__law_draw.nd rfl (Or.inl rfl) (pe_op op_mod (pe_callTy (T := "int") call_int1 (by rfl) m_int (by decide +kernel) (pa_cons (pe_op op_add (pe_op op_add (pe_op op_mul (pv 3) (pv 3)) (pv 2)) (pe_op op_mul (pe_ix ix_list (pv 0) pe_int (fun _ _ => rfl)) pe_int)) pa_nil)) pe_int))
    (pss_cons (ps_set (i := 3) sc__law_draw.nd rfl (Or.inl rfl) (pe_op op_mod (pe_callTy (T := "int") call_int1 (by rfl) m_int (by decide +kernel) (pa_cons (pe_op op_add (pe_op op_add (pe_op op_mul (pv 3) (pv 3)) (pe_op op_fdiv (pv 3) pe_int)) pe_int) pa_nil)) pe_int))
    (pss_one (ps_ret (pe_op op_modN (pe_op op_fdiv (pe_callTy (T := "int") call_int1 (by rfl) m_int (by decide +kernel) (pa_cons (pv 3) pa_nil)) pe_int) (pv 1)))))))))), ?_⟩
    walk_at "rd"
    refine ⟨_, _, _, _, rfl, rfl, sq hA, atI_nat (j := 0) rfl, ?_⟩
    walk_at "rd"
    refine ⟨⟨by decide, by decide, by decide⟩, ?_⟩
    walk_at "rd"
    refine ite2 (fun hb => ?_) (fun hb => ?_)
    · walk_at "rd"
      refine ⟨⟨by omega, by omega⟩, ?_⟩
      walk_at "rd"
      refine ⟨_, _, _, 0, rfl, rfl, hA, rfl, ?_⟩
      walk_at "rd"
      refine .inl ⟨_, rfl, ?_⟩
      walk_at "rd"
      refine ⟨by omega, ?_⟩
      exact q _ _ _ (hfm _).1 (hfm _).2
    · walk_at "rd"
      refine ⟨_, _, _, _, rfl, rfl, sq hA, atI_nat (j := 1) rfl, ?_⟩
      walk_at "rd"
      refine ⟨_, _, _, 1, rfl, rfl, hA, rfl, ?_⟩
      -- the first mixing
      walk_at "rd"
      refine ⟨.inr ⟨by decide, by decide⟩, ?_⟩
      walk_at "rd"
      refine ⟨_, _, _, _, rfl, rfl, sq upd_same, atI_nat (j := 1) rfl, ?_⟩
      walk_at "rd"
      refine ⟨.inr ⟨by decide, by decide⟩, ?_⟩
      walk_at "rd"
      refine .inl ⟨_, rfl, ?_⟩
      walk_at "rd"
      refine ⟨by show (0 : Int) < 2147483647; decide, ?_⟩
      -- the second
      walk_at "rd"
      refine ⟨.inl (modb _ (by decide) (by decide)), ?_⟩
      walk_at "rd"
      refine ⟨_, _, _, _, rfl, rfl, sq upd_same, atI_nat (j := 1) rfl, ?_⟩
      walk_at "rd"
      refine ⟨.inr ⟨by decide, by decide⟩, ?_⟩
      walk_at "rd"
      refine .inl ⟨_, rfl, ?_⟩
      walk_at "rd"
      refine ⟨by show (0 : Int) < 2147483629; decide, ?_⟩
      -- the third
      walk_at "rd"
      refine ⟨.inl (modb _ (by decide) (by decide)), ?_⟩
      walk_at "rd"
      refine ⟨⟨by decide, by decide⟩, ?_⟩
      walk_at "rd"
      refine .inl ⟨_, rfl, ?_⟩
      walk_at "rd"
      refine ⟨by show (0 : Int) < 2147483587; decide, ?_⟩
      -- the answer
      walk_at "rd"
      refine .inl ⟨_, rfl, ?_⟩
      walk_at "rd"
      refine ⟨⟨by decide, by decide⟩, ?_⟩
      walk_at "rd"
      refine ⟨by omega, ?_⟩
      exact q _ _ _ (hfm _).1 (hfm _).2
/-- some other source, or none -/
theorem draw_of {H : Hp} {a : Addr} {lim : Int} {Q : VK} {E : XK} (hA : Src H a) (h0 : 0 < lim ∧ lim < 1073741824) (q : ∀ r H', 0 ≤ r → r < lim → SameBut a H H' → Src H' a → Q (.int r) H') : spDraw [.ref a, .int lim] H Q E := by
  obtain ⟨n, c, hA⟩ := hA
  unfold spDraw
  exact ⟨a, n, c, lim, rfl, hA, h0.1, h0.2, fun r n' c' h1 h2 => q r _ h1 h2 SameBut.upd ⟨n', c', upd_same⟩⟩
abbrev CDraw (P : Program) (w : World) (K : PySem.W.Frag) (mg : Str → Option Value) (base : Heap) : Prop := Cal P w K mg base "_law_draw" 1 ["_law_source_here", "_law_limit"] spDraw
end
theorem st_co {t : TS} {D : Ends} {rest : TS} {σ : List (Option V)} {H : Hp} (R : Hp → Prop) (h : ∀ D' : Ends, (∀ H', R H' → D'.nx σ H') → t D' σ H) (k : ∀ H', R H' → rest D σ H') : tSeq t rest D σ H :=
  h { D with nx := rest D } k
theorem sub_snoc {ms ns : List Str} {i : Nat} {n : Str} (h : ms.Sublist (ns.take i)) (hn : ns[i]? = some n) : (ms ++ [n]).Sublist (ns.take (i + 1)) := by
  rw [List.take_add_one, hn]
  exact h.append (List.Sublist.refl _)
theorem sub_skip {ms ns : List Str} {i : Nat} (h : ms.Sublist (ns.take i)) : ms.Sublist (ns.take (i + 1)) := by
  rw [List.take_add_one]
  exact h.trans (List.sublist_append_left _ _)
theorem st_any {t : TS} {D : Ends} {rest : TS} {σ : List (Option V)} {H : Hp} (R : List (Option V) → Hp → Prop) (h : ∀ D' : Ends, (∀ σ' H', R σ' H' → D'.nx σ' H') → t D' σ H) (k : ∀ σ' H', R σ' H' → rest D σ' H') : tSeq t rest D σ H :=
  h { D with nx := rest D } k
section
variable {P : Program} {w : World} {K : PySem.W.Frag} {mg : Str → Option Value} {base : Heap}
theorem sqt_but {H H' : Hp} {s a : Addr} {xs : List V} (hs : Src H s) (sb : SameBut s H H') (h : SqT K H a xs) : SqT K H' a xs := by
  obtain ⟨n, c, hs⟩ := hs
  rcases h with (h | ⟨u, h⟩) | h
  · exact .inl (.inl (sb _ _ (fun z => by rw [z, hs] at h; cases h) h))
  · exact .inl (.inr ⟨u, sb _ _ (fun z => by rw [z, hs] at h; cases h) h⟩)
  · exact .inr h
theorem tk_but {H H' : Hp} {s : Addr} (hs : Src H s) (sb : SameBut s H H') : Tk K H H' := fun _ _ h => sqt_but hs sb h
end
theorem bare_new {H : Hp} {C k dk : Addr} (nk : H k = none) (nd : H dk = none) (ne : dk ≠ k) : Same H (upd (upd H dk (.own k)) k (.ins C dk [])) ∧ (upd (upd H dk (.own k)) k (.ins C dk [])) k = some (.ins C dk []) :=
  ⟨Same.trans (same_new nd) (same_new (by rw [upd_ne (Ne.symm ne)]; exact nk)), upd_same⟩
theorem perm_asc {ys sh s : List Str} (pm : ys.Perm sh) (st : sortedS ys = true) (nd : sh.Nodup) (as : Asc s) (m : ∀ x, x ∈ s ↔ x ∈ sh) : ys = s :=
  asc_eq (asc_of st (pm.nodup_iff.mpr nd)) as fun x => pm.mem_iff.trans (m x).symm
theorem keys_tb (l : Tb) : (tbV l).map (·.1) = (l.map (·.1)).map Sum.inr := by
  unfold tbV
  rw [List.map_map, List.map_map]
  rfl
theorem has_tb : ∀ {l : Tb} {z : Str}, z ∈ l.map (·.1) → valV (tbV l) (.inr z) = some (.str (rn l z))
  | p :: r, z, h => by
    unfold rn
    by_cases e : p.1 = z
    · have e2 : ((.inr p.1 : Key), V.str p.2).1 = .inr z := congrArg Sum.inr e
      show valV (((.inr p.1 : Key), V.str p.2) :: tbV r) (.inr z) = _
      rw [valV_pos e2, List.find?_cons, decide_eq_true e]
      rfl
    · have e2 : ¬ ((.inr p.1 : Key), V.str p.2).1 = .inr z := fun h => e (Sum.inr.inj h)
      show valV (((.inr p.1 : Key), V.str p.2) :: tbV r) (.inr z) = _
      rw [valV_neg e2, List.find?_cons, decide_eq_false e]
      exact has_tb (by
        rw [List.map_cons] at h
        exact (List.mem_cons.mp h).resolve_left fun h => e h.symm)
/-- what [(k, d[k]) for k in sorted(d)] lists -/
def prs (f : Str → PyData) (ys : List Str) : List PyData := ys.map fun z => .tuple [.str z, f z]
theorem tup_prs {f : Str → PyData} (hf : ∀ z, tupD (f z) = true) : ∀ ys : List Str, tupAll (prs f ys) = true
  | [] => rfl
  | z :: r => by
    show (tupD (.tuple [.str z, f z]) && tupAll (prs f r)) = true
    rw [tup_prs hf r]
    show (true && (tupD (f z) && true) && true) = true
    rw [hf z]
    rfl
section
variable {P : Program} {w : World} {K : PySem.W.Frag} {mg : Str → Option Value} {base : Heap}
theorem pairs_lc {tw : TE} {σ : List (Option V)} {H : Hp} {i a : Nat} {d : Addr} {kvs : List (Key × V)} {ks : List Str} {g : Str → V} {f : Str → PyData} {Q : VK} (hi : i < σ.length) (ha : a ≠ i) (hs : σ[a]? = some (some (.ref d))) (hd : H d = some (.dK kvs)) (h64 : ks.length < 64)
    (hv : ∀ z ∈ ks, valV kvs (.inr z) = some (g z)) (hf : ∀ z H', Dp K H' (g z) (f z)) (ht : ∀ z, tupD (f z) = true)
    (hw : ∀ R : VK, (∀ p H1 ys, Same H H1 → H1 p = some (.lst (ys.map V.str)) → ys.Perm ks → sortedS ys = true → R (.ref p) H1) → tw σ H R)
    (q : ∀ D H' us ys, Same H H' → H' D = some (.lst us) → H D = none → DpAll K H' us (prs f ys) → ys.Perm ks → sortedS ys = true → Q (.ref D) H') :
    tLc (iList K tw) (gName i) tYes (tTup (tCons (tVar i) (tCons (tDGet (tVar a) (tVar i)) tNil))) [i] σ H Q := by
  refine hw _ fun p H1 ys s1 hp pm st => ⟨p, rfl, ⟨_, sq hp⟩, fun D hD => ?_⟩
  have yl : ys.length < 64 := by rw [pm.length_eq]; exact h64
  refine lc_it walk_list (fun j H' => ∃ us, H' D = some (.lst us) ∧ DpAll K H' us (prs f (ys.take j)) ∧ us.length = j ∧ Same H1 H') ⟨[], upd_same, .nil, rfl, same_new hD⟩ (fun j H' _ ⟨_, _, _, _, s⟩ => sq (s _ _ hp)) ?_ ?_
  · rintro j v H2 H3 hj ⟨us, hu, hda, hul, s2⟩ ⟨rfl, hx⟩
    rw [List.length_map] at hj
    obtain ⟨z, hz, rfl⟩ := at_map hx
    have hzk : z ∈ ks := pm.mem_iff.mp (List.mem_of_getElem? hz)
    have wl : (wipe σ [i]).length = σ.length := wipe_length σ [i]
    have wi : ((wipe σ [i]).set i (some (V.str z)))[i]? = some (some (V.str z)) := by
      rw [List.getElem?_set_self (by rw [wl]; exact hi)]
    have wa : ((wipe σ [i]).set i (some (V.str z)))[a]? = some (some (V.ref d)) := by
      rw [List.getElem?_set_ne (Ne.symm ha), wipe_out (by simpa using ha)]
      exact hs
    refine ⟨?_, ?_⟩
    · show ((wipe σ []).set i none |>.set i (some (V.str z)) |>.set i none) = (wipe σ []).set i none
      rw [List.set_set, List.set_set]
    have hd3 := s2 _ _ (s1 _ _ hd)
    refine ⟨_, wi, _, wa, _, wi, d, g z, rfl, by rw [← hv z hzk]; exact DGet.k (k := .inr z) hd3, ?_⟩
    refine ⟨sz (by show 2 ≤ 100000; decide), fun T nT => ?_⟩
    have sT := same_new nT (o := .tup [.str z, g z])
    have eT : (upd H3 T (.tup [.str z, g z])) T = some (.tup [.str z, g z]) := upd_same
    have hu2 := sT _ _ hu
    have tk := tk_lst (K := K) (o := .lst (us ++ [.ref T])) hu2
    refine ⟨us, hu2, szl (by omega), us ++ [.ref T], upd_same, ?_, by rw [List.length_append, hul]; rfl, ?_⟩
    · have e : prs f (ys.take (j + 1)) = prs f (ys.take j) ++ [.tuple [.str z, f z]] := by
        unfold prs
        rw [List.take_add_one, hz, List.map_append]
        rfl
      rw [e]
      refine da_app (da_tk tk _ _ (tup_prs ht _) (dpAll_same sT hda)) (da_one ?_)
      exact .tup (sqt (show (upd (upd H3 T (.tup [.str z, g z])) D (.lst (us ++ [.ref T]))) T = some (.tup [.str z, g z]) by rw [upd_ne fun e => by rw [e, hu] at nT; cases nT]; exact eT)) (.cons (.str z) (da_one (hf z _)))
    · intro b o hb
      rw [upd_ne (ne_of_none hb hD)]
      exact sT _ _ (s2 _ _ hb)
  · rintro H2 ⟨us, hu, hda, hul, s2⟩
    rw [List.length_map, List.take_length] at hda
    exact q D H2 us ys (Same.trans s1 s2) hu (s1.free hD) hda pm st
end
end K36
namespace K36
local macro_rules | `(tactic| walk_at "rd") => `(tactic| repeat (first | refine ⟨rfl, ?_⟩ | refine ⟨_, rfl, ?_⟩ | refine ⟨_, _, rfl, rfl, ?_⟩ | refine ⟨⟨_, rfl⟩, ?_⟩))
open PySem PySem.Spec PyProof.Rows L2 Bx TL Dx Zx Ow Sup NdefX Px
/-! ### reading -/
theorem num_lt : ∀ bs : List Bool, num bs < 2 ^ bs.length := by
  have key : ∀ (bs : List Bool) (a : Nat), bs.foldl (fun a b => 2 * a + (if b then 1 else 0)) a < (a + 1) * 2 ^ bs.length := by
    intro bs
    induction bs with
    | nil =>
      intro a
      show a < (a + 1) * 1
      omega
    | cons b bs ih =>
      intro a
      refine Nat.lt_of_lt_of_le (ih _) ?_
      show (2 * a + (if b then 1 else 0) + 1) * 2 ^ bs.length ≤ (a + 1) * 2 ^ (bs.length + 1)
      rw [Nat.pow_succ, Nat.mul_comm (2 ^ bs.length) 2, ← Nat.mul_assoc]
      exact Nat.mul_le_mul_right _ (by split <;> omega)
  intro bs
  have := key bs 0
  rw [Nat.zero_add, Nat.one_mul] at this
  exact this
theorem cols_lt {n : Nat} {ws : Wd} {ns : List Str} : ∀ k ∈ cols n ws ns, k < 2 ^ ns.length := fun k hk => by
  obtain ⟨i, _, rfl⟩ := List.mem_map.mp hk
  have := num_lt (ns.map fun z => isB (letr ws i z))
  rw [List.length_map] at this
  exact this
def holdM (m : Mc) (ks : List Nat) : Bool := decide (0 ≤ runM m ks) && decide (m.ends.getD (runM m ks).toNat 0 = 1)
def EndsOk (m : Mc) : Prop := m.ends.length = m.rows.length
def POOL : List Str := [Str.ofString "a", Str.ofString "b.x", Str.ofString "b1", Str.ofString "zz"]
theorem pool_asc : Asc (emp :: POOL) := of_decide_eq_true (p := (emp :: POOL).Pairwise fun (x y : Str) => x.cps.toList < y.cps.toList) (by decide +kernel)
theorem pool_ok : ∀ z ∈ POOL, PyData.strOk z = true := by decide +kernel
theorem pool_ne : ∀ z ∈ POOL, z ≠ emp := by decide +kernel
/-- the drawn words -/
structure WsOk (n : Nat) (ws : Wd) : Prop where
  key : ws.map (·.1) = POOL
  len : ∀ p ∈ ws, p.2.length = n
  ok : ∀ p ∈ ws, PyData.strOk p.2 = true
  n8 : n ≤ 8
theorem wd_mem : ∀ {ws : Wd} {z : Str}, z ∈ ws.map (·.1) → (z, wd ws z) ∈ ws
  | p :: r, z, h => by
    unfold wd
    by_cases e : p.1 = z
    · rw [List.find?_cons, decide_eq_true e]
      rw [← e]
      exact List.mem_cons_self ..
    · rw [List.find?_cons, decide_eq_false e]
      refine List.mem_cons_of_mem _ (wd_mem (List.mem_of_ne_of_mem (fun z => e z.symm) h))
theorem WsOk.wok {n : Nat} {ws : Wd} (h : WsOk n ws) {ns : List Str} (sub : ∀ z ∈ ns, z ∈ POOL) : Wok n ws ns := fun z hz => by
  have zp := sub z hz
  have zm : z ∈ ws.map (·.1) := by rw [h.key]; exact zp
  exact ⟨pool_ne z zp, zm, h.len _ (wd_mem zm)⟩
theorem WsOk.keys {n : Nat} {ws : Wd} (h : WsOk n ws) : (wkV n ws).map (·.1) = (emp :: POOL).map Sum.inr := by
  rw [← h.key]
  show Sum.inr emp :: ((ws.map fun p => ((.inr p.1 : Key), V.str p.2)).map (·.1)) = _
  rw [List.map_map, List.map_cons, List.map_map]
  rfl
def wG (n : Nat) (ws : Wd) (z : Str) : V := if z = emp then .int (n : Nat) else .str (wd ws z)
def wF (n : Nat) (ws : Wd) (z : Str) : PyData := if z = emp then .int (n : Nat) else .str (wd ws z)
theorem wG_F {K : PySem.W.Frag} {H : Hp} (n : Nat) (ws : Wd) (z : Str) : Dp K H (wG n ws z) (wF n ws z) := by
  unfold wG wF
  split
  · exact .int _
  · exact .str _
theorem tup_wF (n : Nat) (ws : Wd) (z : Str) : tupD (wF n ws z) = true := by
  unfold wF
  split <;> rfl
theorem WsOk.val {n : Nat} {ws : Wd} (h : WsOk n ws) : ∀ z ∈ emp :: POOL, valV (wkV n ws) (.inr z) = some (wG n ws z) := fun z hz => by
  unfold wG
  rcases List.mem_cons.mp hz with e | hp
  · rw [if_pos e, e]
    exact wk_len n ws
  · rw [if_neg (pool_ne z hp)]
    exact wk_word (by rw [h.key]; exact hp) (pool_ne z hp)
theorem WsOk.lay {n : Nat} {ws : Wd} (h : WsOk n ws) : Lay 2 (.list (prs (wF n ws) (emp :: POOL))) := lay_list (lays_of fun dd hdd => by
  obtain ⟨z, hz, rfl⟩ := List.mem_map.mp hdd
  refine lay_tuple (lays_cons (lay_str ?_) (lays_cons ?_ lays_nil))
  · rcases List.mem_cons.mp hz with e | hp
    · rw [e]
      decide +kernel
    · exact pool_ok z hp
  · unfold wF
    split
    · exact lay_int
    · rename_i ne
      have hp := (List.mem_cons.mp hz).resolve_left ne
      exact lay_str (h.ok _ (wd_mem (by rw [h.key]; exact hp))))
section
variable {P : Program} {w : World} {K : PySem.W.Frag} {mg : Str → Option Value} {base : Heap}
@[irreducible] def spLast (K : PySem.W.Frag) : Sp := fun vs H Q _ => ∃ (p a : Addr) (m : Mc) (ks : List Nat), vs = [.ref p, .ref a] ∧ Dp K H (.ref p) (mcD m) ∧ SqL K H a (ks.map natV) ∧ RowsOk m ∧ (∀ k ∈ ks, k < 2 ^ m.ns.length) ∧ (-1 ≤ runM m ks → runM m ks < (m.rows.length : Int) → Q (.int (runM m ks)) H)
theorem ok_last {f : Addr} {fd : FuncData} (F : Fun K "_law_last" "_law_last" s__law_last f fd) : FnOk P w K mg base CX0 1 f fd ["_law_machine_here", "_law_numbers"] (spLast K) := by
  refine F.ok sc__law_last (fun vs H Q E h => ?_) (fun cdv A outer s H vs Q E hr h => ?_)
  · unfold spLast at h
    obtain ⟨p, a, m, ks, rfl, _⟩ := h
    rfl
  · unfold spLast at h
    obtain ⟨p, a, m, ks, rfl, hp, ha, ok, hk, q⟩ := h
    obtain ⟨p', pn, pm, pe, xs, ep, M⟩ := mc_dp hp
    cases ep
    refine ⟨_, (pss_cons (ps_set (i := 2) sc__law_last.nd rfl (Or.inl rfl) pe_int)
    (pss_cons (ps_for PassesOwn.never rfl (pi_list (pv 1)) (pg_name (i := 3) sc__law_last.nd rfl (Or.inl rfl))
      (pss_one (ps_if (pt_cmpR op_ge (pv 2) pe_int (nomark _))
      (pss_one (ps_set (i := 2) sc__law_last.nd rfl (Or.inl rfl) (pe_ix ix_tup (pe_ix ix_tup (pe_ix ix_tup (pv 0) pe_int (fun _ _ => rfl)) (pv 2) (fun _ _ => rfl)) (pv 3) (fun _ _ => rfl))))
      pss_nil)))
    (pss_one (ps_ret (pv 2))))), ?_⟩
    walk_at "rd"
    refine ⟨⟨_, ha⟩, for_it walk_list (fun i σ H' => ∃ o3 : Option V, σ = [some (.ref p), some (.ref a), some (.int (runM m (ks.take i))), o3] ∧ H' = H ∧ -1 ≤ runM m (ks.take i) ∧ runM m (ks.take i) < (m.rows.length : Int)) ⟨none, rfl, rfl, by show (-1 : Int) ≤ 0; decide, by show (0 : Int) < _; have := ok.1; omega⟩ (fun i σ H' _ ⟨_, _, e, _⟩ => e ▸ ha) ?_ ?_⟩
    · rintro i x σ H2a H2 hi ⟨o3, rfl, rfl, b1, b2⟩ ⟨rfl, hx⟩
      obtain ⟨k, hkk, rfl⟩ := at_map hx
      have e1 : runM m (ks.take (i + 1)) = stepM m (runM m (ks.take i)) k := by
        rw [List.take_add_one, hkk]
        exact run_snoc m _ k
      rw [e1]
      walk_at "rd"
      refine ite2 (fun h6 => ?_) (fun h6 => ?_)
      · have n0 : 0 ≤ runM m (ks.take i) := of_decide_eq_true h6
        obtain ⟨q', r, a1, a2, a3, a4, a5⟩ := step_at M ok n0 b2 (hk k (List.mem_of_getElem? hkk))
        walk_at "rd"
        refine ⟨_, _, _, _, rfl, rfl, M.t, atI_nat (j := 1) rfl, ?_⟩
        walk_at "rd"
        refine ⟨_, _, _, _, rfl, rfl, M.r, a1, ?_⟩
        walk_at "rd"
        refine ⟨_, _, _, _, rfl, rfl, a2, a3, ?_⟩
        exact ⟨_, rfl, rfl, a4, a5⟩
      · have n0 : ¬ 0 ≤ runM m (ks.take i) := fun z => h6 (decide_eq_true z)
        have e2 : runM m (ks.take i) = -1 := by omega
        have e3 : stepM m (runM m (ks.take i)) k = runM m (ks.take i) := by
          unfold stepM
          rw [if_pos e2, e2]
        walk_at "rd"
        rw [e3]
        exact ⟨_, rfl, rfl, b1, b2⟩
    · rintro σ H2 ⟨o3, rfl, rfl, b1, b2⟩
      rw [List.length_map, List.take_length] at b1 b2 ⊢
      walk_at "rd"
      exact q b1 b2
@[irreducible] def spIsInt : Sp := fun vs H Q _ => ∃ i : Int, vs = [.int i, .int i] ∧ Q (.bl true) H
theorem ok_is_int {f : Addr} {fd : FuncData} (F : Fun K "_law_is_int" "_law_is_int" s__law_is_int f fd) (m_isinstance : mg "isinstance" = none) (m_int : mg "int" = none) (m_bool : mg "bool" = none) : FnOk P w K mg base CX0 1 f fd ["_law_actual", "_law_expected"] spIsInt := by
  refine F.ok sc__law_is_int (fun vs H Q E h => ?_) (fun cdv A outer s H vs Q E hr h => ?_)
  · unfold spIsInt at h
    obtain ⟨i, rfl, _⟩ := h
    rfl
  · unfold spIsInt at h
    obtain ⟨i, rfl, q⟩ := h
    refine ⟨_, (pss_one (ps_ret (pe_and (pe_callB (id := "isinstance") call_isi (by rfl) m_isinstance (by decide +kernel) (pa_cons (pv 0) (pa_cons (pe_bltn (v := .ty "int") (by rfl) m_int (by decide +kernel) rfl) pa_nil))) (pe_and (pe_not (pe_callB (id := "isinstance") call_isi (by rfl) m_isinstance (by decide +kernel) (pa_cons (pv 0) (pa_cons (pe_bltn (v := .ty "bool") (by rfl) m_bool (by decide +kernel) rfl) pa_nil)))) (pe_one (pe_cmpR op_eq (pv 0) (pv 1) (nomark _))))))), ?_⟩
    walk_at "rd"
    refine ⟨_, _, _, _, true, rfl, .ty "int", .base (.int _), kit_ty (by decide +kernel), ?_⟩
    walk_at "rd"
    refine ⟨_, _, _, _, false, rfl, .ty "bool", .base (.int _), kit_ty (by decide +kernel), ?_⟩
    walk_at "rd"
    rw [decide_eq_true (show V.int i = V.int i from rfl)]
    exact q
@[irreducible] def spIsBool : Sp := fun vs H Q _ => ∃ i : Bool, vs = [.bl i, .bl i] ∧ Q (.bl true) H
theorem ok_is_bool {f : Addr} {fd : FuncData} (F : Fun K "_law_is_bool" "_law_is_bool" s__law_is_bool f fd) (m_isinstance : mg "isinstance" = none) (m_bool : mg "bool" = none) : FnOk P w K mg base CX0 1 f fd ["_law_actual", "_law_expected"] spIsBool := by
  refine F.ok sc__law_is_bool (fun vs H Q E h => ?_) (fun cdv A outer s H vs Q E hr h => ?_)
  · unfold spIsBool at h
    obtain ⟨i, rfl, _⟩ := h
    rfl
  · unfold spIsBool at h
    obtain ⟨i, rfl, q⟩ := h
    refine ⟨_, (pss_one (ps_ret (pe_and (pe_callB (id := "isinstance") call_isi (by rfl) m_isinstance (by decide +kernel) (pa_cons (pv 0) (pa_cons (pe_bltn (v := .ty "bool") (by rfl) m_bool (by decide +kernel) rfl) pa_nil))) (pe_one (pe_cmpR op_eq (pv 0) (pv 1) (nomark _)))))), ?_⟩
    walk_at "rd"
    refine ⟨_, _, _, _, true, rfl, .ty "bool", .base (.bl _), kit_ty (by decide +kernel), ?_⟩
    walk_at "rd"
    rw [decide_eq_true (show V.bl i = V.bl i from rfl)]
    exact q
@[irreducible] def spSameRow (K : PySem.W.Frag) : Sp := fun vs H Q _ => ∃ (a b : Addr) (r : List Int), vs = [.ref a, .ref b] ∧ SqT K H a (r.map V.int) ∧ (SqL K H b (r.map V.int) ∨ SqT K H b (r.map V.int)) ∧ r.length ≤ 1000 ∧ Q (.bl true) H
theorem ok_same_row {f : Addr} {fd : FuncData} (F : Fun K "_law_same_row" "_law_same_row" s__law_same_row f fd) (m_isinstance : mg "isinstance" = none) (m_tuple : mg "tuple" = none) (m_len : mg "len" = none) (m_range : mg "range" = none) (C__law_is_int : Cal P w K mg base "_law_is_int" 1 ["_law_actual", "_law_expected"] spIsInt) : FnOk P w K mg base CX0 2 f fd ["_law_actual", "_law_expected"] (spSameRow K) := by
  refine F.ok sc__law_same_row (fun vs H Q E h => ?_) (fun cdv A outer s H vs Q E hr h => ?_)
  · unfold spSameRow at h
    obtain ⟨a, b, r, rfl, _⟩ := h
    rfl
  · unfold spSameRow at h
    obtain ⟨a, b, r, rfl, ha, hb, rl, q⟩ := h
    refine ⟨_, (pss_cons (ps_if (PW.pt (pw_or (pt_not (pt_val (pe_callB (id := "isinstance") call_isi (by rfl) m_isinstance (by decide +kernel) (pa_cons (pv 0) (pa_cons (pe_bltn (v := .ty "tuple") (by rfl) m_tuple (by decide +kernel) rfl) pa_nil))))) (pw_or1 (pt_cmpR op_ne (pe_callB call_len_seq (by rfl) m_len PySem.boot_len (pa_cons (pv 0) pa_nil)) (pe_callB call_len_seq (by rfl) m_len PySem.boot_len (pa_cons (pv 1) pa_nil)) (nomark _)))))
      (pss_one (ps_ret pe_bl))
      pss_nil)
    (pss_cons (ps_for PassesOwn.never rfl (pi_range1 (by rfl) m_range (pa_cons (pe_callB call_len_seq (by rfl) m_len PySem.boot_len (pa_cons (pv 1) pa_nil)) pa_nil)) (pg_name (i := 2) sc__law_same_row.nd rfl (Or.inl rfl))
      (pss_one (ps_if (pt_not (pt_val (pe_cal C__law_is_int (hr.mono (by decide)) (pa_cons (pe_ix ix_tup (pv 0) (pv 2) (fun _ _ => rfl)) (pa_cons (pe_ix ix_seq (pv 1) (pv 2) (fun _ _ => rfl)) pa_nil)))))
      (pss_one (ps_ret pe_bl))
      pss_nil)))
    (pss_one (ps_ret pe_bl)))), ?_⟩
    walk_at "rd"
    refine ⟨_, _, _, _, true, rfl, .ty "tuple", ty_tup ha, kit_ty (by decide +kernel), ?_⟩
    walk_at "rd"
    refine ⟨a, _, rfl, .inr ha, ?_⟩
    walk_at "rd"
    refine ⟨b, _, rfl, hb, ?_⟩
    walk_at "rd"
    rw [decide_eq_true (show V.int ((r.map V.int).length : Nat) = V.int ((r.map V.int).length : Nat) from rfl)]
    walk_at "rd"
    refine ⟨b, _, rfl, hb, ?_⟩
    walk_at "rd"
    have ll : (r.map V.int).length = r.length := List.length_map _
    refine ⟨by omega, by omega, for_it walk_range (fun i σ H' => ∃ o2 : Option V, σ = [some (.ref a), some (.ref b), o2] ∧ H' = H) ⟨none, rfl, rfl⟩ (fun _ _ _ _ _ => trivial) ?_ ?_⟩
    · rintro i x σ H2a H2 hi ⟨o2, rfl, rfl⟩ ⟨rfl, rfl⟩
      have hi2 : i < r.length := by omega
      have ev : (r.map V.int)[i]? = some (.int r[i]) := by rw [List.getElem?_map, List.getElem?_eq_getElem hi2]; rfl
      generalize r[i] = z at ev
      walk_at "rd"
      refine ⟨_, _, _, _, rfl, rfl, ha, by rw [Int.zero_add]; exact atI_nat ev, ?_⟩
      walk_at "rd"
      have go : ∀ {Q' : VK}, Q' (.bl true) H2 → spIsInt [.int z, .int z] H2 Q' E0 := fun q' => by
        unfold spIsInt
        exact ⟨z, rfl, q'⟩
      have at2 : atI (r.map V.int) (0 + (i : Nat)) = some (.int z) := by rw [Int.zero_add]; exact atI_nat ev
      rcases hb with hb | hb
      · refine .inl ⟨_, _, _, _, rfl, rfl, hb, at2, ?_⟩
        refine go ?_
        walk_at "rd"
        exact rfl
      · refine .inr (.inl ⟨_, _, _, _, rfl, rfl, hb, at2, ?_⟩)
        refine go ?_
        walk_at "rd"
        exact rfl
    · rintro σ H2 ⟨o2, rfl, rfl⟩
      walk_at "rd"
      exact q
@[irreducible] def spNI (K : PySem.W.Frag) : Sp := fun vs H Q _ => ∃ (a p pn pm pe : Addr) (xs : List V) (m : Mc), vs = [.ref a, .ref p] ∧ MAt K H p pn pm pe xs m ∧ Q (.ref pn) H
theorem ok_names_in {f : Addr} {fd : FuncData} (F : Fun K "names_in" "Words.names_in" s_Words_names_in f fd) : FnOk P w K mg base CX0 1 f fd ["self", "constraint"] (spNI K) := by
  refine F.ok sc_Words_names_in (fun vs H Q E h => ?_) (fun cdv A outer s H vs Q E hr h => ?_)
  · unfold spNI at h
    obtain ⟨a, p, pn, pm, pe, xs, m, rfl, _⟩ := h
    rfl
  · unfold spNI at h
    obtain ⟨a, p, pn, pm, pe, xs, m, rfl, M, q⟩ := h
    refine ⟨_, (pss_one (ps_ret (pe_ix ix_tup (pv 1) pe_int (fun _ _ => rfl)))), ?_⟩
    walk_at "rd"
    refine ⟨_, _, _, _, rfl, rfl, M.t, atI_nat (j := 0) rfl, ?_⟩
    exact q
theorem ends_at {K : PySem.W.Frag} {H : Hp} {p pn pm pe : Addr} {xs : List V} {m : Mc} (h : MAt K H p pn pm pe xs m) (eo : EndsOk m) {s : Int} (s0 : 0 ≤ s) (s1 : s < (m.rows.length : Int)) : atI (m.ends.map V.int) s = some (.int (m.ends.getD s.toNat 0)) := by
  obtain ⟨j, rfl⟩ := Int.eq_ofNat_of_zero_le s0
  have e : m.ends.length = m.rows.length := eo
  have hj : j < m.ends.length := by omega
  refine atI_nat ?_
  rw [Int.toNat_natCast, List.getD_eq_getElem?_getD, List.getElem?_map, List.getElem?_eq_getElem hj]
  rfl
@[irreducible] def spHolds (K : PySem.W.Frag) : Sp := fun vs H Q _ => ∃ (a p d : Addr) (m : Mc) (n : Nat) (ws : Wd), vs = [.ref a, .ref p, .ref d] ∧ Dp K H (.ref p) (mcD m) ∧ RowsOk m ∧ EndsOk m ∧ H d = some (.dK (wkV n ws)) ∧ Wok n ws m.ns ∧ m.ns.length ≤ 100 ∧ n ≤ 100 ∧ ∀ H', Same H H' → Q (.bl (holdM m (cols n ws m.ns))) H'
theorem ok_holds {f : Addr} {fd : FuncData} (F : Fun K "holds" "Words.holds" s_Words_holds f fd) (C_run : Cal P w K mg base "run" 1 ["machine", "numbers"] (spRun K)) (C_column_numbers : Cal P w K mg base "column_numbers" 2 ["names", "assignment"] (spCols K)) : FnOk P w K mg base CX0 3 f fd ["self", "constraint", "assignment"] (spHolds K) := by
  refine F.ok sc_Words_holds (fun vs H Q E h => ?_) (fun cdv A outer s H vs Q E hr h => ?_)
  · unfold spHolds at h
    obtain ⟨a, p, d, m, n, ws, rfl, _⟩ := h
    rfl
  · unfold spHolds at h
    obtain ⟨a, p, d, m, n, ws, rfl, hp, ok, eo, hd, wo, nl, n100, q⟩ := h
    obtain ⟨p', pn, pm, pe, xs, ep, M⟩ := mc_dp hp
    cases ep
    refine ⟨_, (pss_cons (ps_set (i := 3) sc_Words_holds.nd rfl (Or.inl rfl) (pe_cal C_run (hr.mono (by decide)) (pa_cons (pv 1) (pa_cons (pe_cal C_column_numbers (hr.mono (by decide)) (pa_cons (pe_ix ix_tup (pv 1) pe_int (fun _ _ => rfl)) (pa_cons (pv 2) pa_nil))) pa_nil))))
    (pss_one (ps_ret (pe_and (pe_cmpR op_ne (pv 3) (pe_un un_neg pe_int) (nomark _)) (pe_one (pe_cmpR op_eq (pe_ix ix_tup (pe_ix ix_tup (pv 1) pe_int (fun _ _ => rfl)) (pv 3) (fun _ _ => rfl)) pe_int (nomark _))))))), ?_⟩
    walk_at "rd"
    refine ⟨_, _, _, _, rfl, rfl, M.t, atI_nat (j := 0) rfl, ?_⟩
    walk_at "rd"
    show spCols K _ _ _ _
    unfold spCols
    refine ⟨pn, d, m.ns, n, ws, rfl, M.n, hd, wo, nl, n100, fun r H1 s1 hr1 => ?_⟩
    have M1 := M.same s1
    walk_at "rd"
    show spRun K _ _ _ _
    unfold spRun
    refine ⟨p, r, m, cols n ws m.ns, rfl, dp_mc M1, .inr hr1, ok, cols_lt, fun b1 b2 => ?_⟩
    have q1 := q H1 s1
    unfold holdM at q1
    generalize runM m (cols n ws m.ns) = st at b1 b2 q1
    walk_at "rd"
    by_cases e : st = -1
    · rw [e] at q1 ⊢
      walk_at "rd"
      exact q1
    · have s0 : 0 ≤ st := by omega
      rw [decide_eq_false (fun z => e (V.int.inj z)), decide_eq_true s0] at *
      walk_at "rd"
      refine ⟨_, _, _, _, rfl, rfl, M1.t, atI_nat (j := 2) rfl, ?_⟩
      walk_at "rd"
      refine ⟨_, _, _, _, rfl, rfl, M1.e, ends_at M1 eo s0 b2, ?_⟩
      walk_at "rd"
      have e2 : ∀ x : Int, decide (V.int x = V.int 1) = decide (x = 1) := fun x => decide_eq_decide.mpr ⟨fun z => V.int.inj z, fun z => congrArg V.int z⟩
      rw [e2]
      rw [Bool.true_and] at q1
      exact q1
end
end K36
namespace K36
local macro_rules | `(tactic| walk_at "rd") => `(tactic| repeat (first | refine ⟨rfl, ?_⟩ | refine ⟨_, rfl, ?_⟩ | refine ⟨_, _, rfl, rfl, ?_⟩ | refine ⟨⟨_, rfl⟩, ?_⟩))
open PySem PySem.Spec PyProof.Rows L2 Bx TL Dx Zx Ow Sup NdefX Px
theorem lay_nats (ks : List Nat) : Lay 1 (.list (ks.map fun (k : Nat) => PyData.int (k : Nat))) := by
  have e : (ks.map fun (k : Nat) => PyData.int (k : Nat)) = (ks.map fun (k : Nat) => (k : Int)).map PyData.int := by rw [List.map_map]; rfl
  rw [e]
  exact lay_list lays_ints
theorem dp_nats (K : PySem.W.Frag) (H : Hp) : ∀ ks : List Nat, DpAll K H (ks.map natV) (ks.map fun (k : Nat) => PyData.int (k : Nat))
  | [] => .nil
  | _ :: ks => .cons (.int _) (dp_nats K H ks)
structure McOk (m : Mc) : Prop where
  rows : RowsOk m
  ends : EndsOk m
  sub : ∀ z ∈ m.ns, z ∈ POOL
  nl : m.ns.length ≤ 4
section
variable {P : Program} {w : World} {K : PySem.W.Frag} {mg : Str → Option Value} {base : Heap}
@[irreducible] def spRead (K : PySem.W.Frag) : Sp := fun vs H Q _ => ∃ (p d L : Addr) (m : Mc) (n : Nat) (ws : Wd) (ks : List Nat), vs = [.ref p, .ref d, .ref L] ∧ Dp K H (.ref p) (mcD m) ∧ McOk m ∧ H d = some (.dK (wkV n ws)) ∧ WsOk n ws ∧ H L = some (.lst (ks.map natV)) ∧ (∀ k ∈ ks, k < 2 ^ m.ns.length) ∧ ks.length ≤ 20 ∧ ∀ H', Same H H' → Q (.bl true) H'
set_option maxHeartbeats 4000000 in
theorem ok_reading {C : Addr} {f : Addr} {fd : FuncData} (F : Fun K "_law_reading_right" "_law_reading_right" s__law_reading_right f fd) (m_sorted : mg "sorted" = none) (m_list : mg "list" = none) (m_tuple : mg "tuple" = none) (B_Words : Mk0.Bare K mg "Words" C)
    (C__law_columns : Cal P w K mg base "_law_columns" 2 ["_law_names", "_law_words_here"] (spLCols K)) (C__law_same_row : Cal P w K mg base "_law_same_row" 2 ["_law_actual", "_law_expected"] (spSameRow K)) (C_column_numbers : Cal P w K mg base "column_numbers" 2 ["names", "assignment"] (spCols K))
    (C__law_is_int : Cal P w K mg base "_law_is_int" 1 ["_law_actual", "_law_expected"] spIsInt) (C_run : Cal P w K mg base "run" 1 ["machine", "numbers"] (spRun K)) (C__law_last : Cal P w K mg base "_law_last" 1 ["_law_machine_here", "_law_numbers"] (spLast K)) (C__law_is_bool : Cal P w K mg base "_law_is_bool" 1 ["_law_actual", "_law_expected"] spIsBool)
    (M_holds : MthC P w K mg base C "holds" 3 ["self", "constraint", "assignment"] (spHolds K)) (M_names_in : MthC P w K mg base C "names_in" 1 ["self", "constraint"] (spNI K)) : FnOk P w K mg base CX0 4 f fd ["_law_machine_here", "_law_words_here", "_law_numbers"] (spRead K) := by
  refine F.ok sc__law_reading_right (fun vs H Q E h => ?_) (fun cdv A outer s H vs Q E hr h => ?_)
  · unfold spRead at h
    obtain ⟨p, d, L, m, n, ws, ks, rfl, _⟩ := h
    rfl
  · unfold spRead at h
    obtain ⟨p, d, L, m, n, ws, ks, rfl, hp, mo, hd, wo, hL, hk, kl, q⟩ := h
    obtain ⟨p', pn, pm', pe, xs, ep, M⟩ := mc_dp hp
    cases ep
    have hu := hu_of hr
    have wk := wo.wok mo.sub
    have n8 := wo.n8
    have nl := mo.nl
    refine ⟨_, (pss_cons (ps_set (i := 3) sc__law_reading_right.nd rfl (Or.inl rfl) (pe_ix ix_tup (pv 0) pe_int (fun _ _ => rfl)))
    (pss_cons (ps_set (i := 4) sc__law_reading_right.nd rfl (Or.inl rfl) (pe_cal C__law_columns (hr.mono (by decide)) (pa_cons (pv 3) (pa_cons (pv 1) pa_nil))))
    (pss_cons (ps_setLc (i := 5) (own := [("_law_name", 9)]) (tt := tYes) rfl sc__law_reading_right.nd rfl rfl (sw_true rfl rfl rfl (by decide +kernel)) (pi_list (pe_callB (id := "sorted") (call_sortedD rfl) (by rfl) m_sorted (by decide +kernel) (pa_cons (pv 1) pa_nil))) (blkOk_by (N := n__law_reading_right) (sc := defScope s__law_reading_right) (by decide +kernel)) (fun _ _ _ _ _ => pg_name (i := 9) sc__law_reading_right.nd rfl (Or.inl rfl)) (fun _ _ _ _ _ => pts_nil) (fun _ _ _ _ _ => (pe_tup (pa_cons (pv 9) (pa_cons (pe_dget hu (pv 1) (pv 9) (fun _ _ => rfl)) pa_nil)))))
    (pss_cons (ps_if (pt_not (pt_val (pe_cal C__law_same_row (hr.mono (by decide)) (pa_cons (pe_cal C_column_numbers (hr.mono (by decide)) (pa_cons (pv 3) (pa_cons (pv 1) pa_nil))) (pa_cons (pv 4) pa_nil)))))
      (pss_one (ps_ret pe_bl))
      pss_nil)
    (pss_cons (ps_for PassesOwn.never rfl (pi_list (pe_lst (pa_cons (pv 4) (pa_cons (pv 2) (pa_cons (pe_lst pa_nil) pa_nil))))) (pg_name (i := 6) sc__law_reading_right.nd rfl (Or.inl rfl))
      (pss_cons (ps_set (i := 8) sc__law_reading_right.nd rfl (Or.inl rfl) (pe_callTy (T := "list") call_list_of (by rfl) m_list (by decide +kernel) (pa_cons (pv 6) pa_nil)))
    (pss_cons (ps_if (PW.pt (pw_or (pt_not (pt_val (pe_cal C__law_is_int (hr.mono (by decide)) (pa_cons (pe_cal C_run (hr.mono (by decide)) (pa_cons (pv 0) (pa_cons (pv 8) pa_nil))) (pa_cons (pe_cal C__law_last (hr.mono (by decide)) (pa_cons (pv 0) (pa_cons (pv 6) pa_nil))) pa_nil))))) (pw_or1 (pt_cmpR (op_neD hr.units) (pv 8) (pv 6) (nomark _)))))
      (pss_one (ps_ret pe_bl))
      pss_nil)
    (pss_one (ps_if (pt_not (pt_val (pe_cal C__law_is_int (hr.mono (by decide)) (pa_cons (pe_cal C_run (hr.mono (by decide)) (pa_cons (pv 0) (pa_cons (pe_callTy (T := "tuple") call_tuple_of (by rfl) m_tuple (by decide +kernel) (pa_cons (pv 6) pa_nil)) pa_nil))) (pa_cons (pe_cal C__law_last (hr.mono (by decide)) (pa_cons (pv 0) (pa_cons (pv 6) pa_nil))) pa_nil)))))
      (pss_one (ps_ret pe_bl))
      pss_nil)))))
    (pss_cons (ps_set (i := 7) sc__law_reading_right.nd rfl (Or.inl rfl) (pe_cal C__law_last (hr.mono (by decide)) (pa_cons (pv 0) (pa_cons (pv 4) pa_nil))))
    (pss_cons (ps_if (pt_not (pt_val (pe_cal C__law_is_bool (hr.mono (by decide)) (pa_cons (pe_mth M_holds (hr.mono (by decide)) (Mk0.pe_bare B_Words) (pa_cons (pv 0) (pa_cons (pv 1) pa_nil)) (ht := mcall_of (abase_call (by decide +kernel)) (fun _ => rfl))) (pa_cons (pe_and (pe_cmpR op_ge (pv 7) pe_int (nomark _)) (pe_one (pe_cmpR op_eq (pe_ix ix_tup (pe_ix ix_tup (pv 0) pe_int (fun _ _ => rfl)) (pv 7) (fun _ _ => rfl)) pe_int (nomark _)))) pa_nil)))))
      (pss_one (ps_ret pe_bl))
      pss_nil)
    (pss_one (ps_ret (pe_and (pe_cmpR (op_eqD hr.units) (pe_lc (own := [("_law_name", 9)]) (tt := tYes) rfl sc__law_reading_right.nd (pi_list (pe_callB (id := "sorted") (call_sortedD rfl) (by rfl) m_sorted (by decide +kernel) (pa_cons (pv 1) pa_nil))) (blkOk_by (N := n__law_reading_right) (sc := defScope s__law_reading_right) (by decide +kernel)) (fun _ _ _ _ _ => pg_name (i := 9) sc__law_reading_right.nd rfl (Or.inl rfl)) (fun _ _ _ _ _ => pts_nil) (fun _ _ _ _ _ => (pe_tup (pa_cons (pv 9) (pa_cons (pe_dget hu (pv 1) (pv 9) (fun _ _ => rfl)) pa_nil))))) (pv 5) (nomark _)) (pe_one (pe_cmpR (op_eqD hr.units) (pe_mth M_names_in (hr.mono (by decide)) (Mk0.pe_bare B_Words) (pa_cons (pv 0) pa_nil) (ht := mcall_of (abase_call (by decide +kernel)) (fun _ => rfl))) (pv 3) (nomark _))))))))))))), ?_⟩
    walk_at "rd"
    refine ⟨_, _, _, _, rfl, rfl, M.t, atI_nat (j := 0) rfl, ?_⟩
    walk_at "rd"
    show spLCols K _ _ _ _
    unfold spLCols
    refine ⟨pn, d, m.ns, n, ws, rfl, M.n, hd, wk, by omega, by omega, fun Cc H1 s1 hC => ?_⟩
    have hd1 := s1 _ _ hd
    have M1 := M.same s1
    dsimp only [gName]
    refine set_gi (te := tLc _ _ _ _ _) (i := 5) (fun v H' => ∃ (D : Addr) (us : List V), v = .ref D ∧ Same H1 H' ∧ H' D = some (.lst us) ∧ DpAll K H' us (prs (wF n ws) (emp :: POOL))) (fun Z hZ => ?_) (fun v H2 => ?_)
    · refine pairs_lc (a := 1) (g := wG n ws) (f := wF n ws) (ks := emp :: POOL) (by show 9 < 10; decide) (by decide) rfl hd1 (by decide) wo.val (fun z H' => wG_F n ws z) (tup_wF n ws) (fun R hR => ?_) (fun D H' us ys s h1 h0 h2 pm st => ?_)
      · walk_at "rd"
        exact ⟨d, _, emp :: POOL, rfl, .inl hd1, wo.keys, by decide, fun ys p pm st np => hR p _ ys (same_new np) upd_same pm st⟩
      · have e := perm_asc pm st (asc_nodup pool_asc) pool_asc (fun _ => Iff.rfl)
        rw [e] at h2
        exact hZ _ _ ⟨D, us, rfl, s, h1, h2⟩
    rintro ⟨D, us, rfl, s2, hD, hda⟩
    have s02 := s1.trans s2
    have hC2 := s2 _ _ hC
    have cl2 : (cols n ws m.ns).length = n := by
      unfold cols
      rw [List.length_map, List.length_range]
    have ec : (cols n ws m.ns).map natV = ((cols n ws m.ns).map fun (k : Nat) => (k : Int)).map V.int := by rw [List.map_map]; rfl
    walk_at "rd"
    show spCols K _ _ _ _
    unfold spCols
    refine ⟨pn, d, m.ns, n, ws, rfl, (M.same s02).n, s02 _ _ hd, wk, by omega, by omega, fun r H3 s3 hr3 => ?_⟩
    walk_at "rd"
    show spSameRow K _ _ _ _
    unfold spSameRow
    rw [ec] at hr3
    refine ⟨r, Cc, (cols n ws m.ns).map fun (k : Nat) => (k : Int), rfl, hr3, .inl (by rw [← ec]; exact sq (s3 _ _ hC2)), by rw [List.length_map]; omega, ?_⟩
    have s03 := s02.trans s3
    have s23 := s2.trans s3
    walk_at "rd"
    refine ⟨sz (by decide), fun e1 ne1 => ?_⟩
    have s4 := same_new ne1 (o := .lst ([] : List V))
    have he1 := upd_same (H := H3) (a := e1) (o := .lst ([] : List V))
    generalize upd H3 e1 (.lst []) = H4 at s4 he1 ⊢
    refine ⟨sz (by show 3 ≤ 100000; decide), fun I nI => ?_⟩
    have s5 := same_new nI (o := .lst [.ref Cc, .ref L, .ref e1])
    have hI := upd_same (H := H4) (a := I) (o := .lst [.ref Cc, .ref L, .ref e1])
    have s05 := s03.trans (s4.trans s5)
    have each : ∀ v ∈ [V.ref Cc, .ref L, .ref e1], ∃ (a : Addr) (js : List Nat), v = .ref a ∧ (upd H4 I (.lst [.ref Cc, .ref L, .ref e1])) a = some (.lst (js.map natV)) ∧ (∀ k ∈ js, k < 2 ^ m.ns.length) ∧ js.length ≤ 20 := fun v hv => by
      simp only [List.mem_cons, List.not_mem_nil, or_false] at hv
      rcases hv with rfl | rfl | rfl
      · exact ⟨Cc, _, rfl, (s3.trans (s4.trans s5)) _ _ hC2, cols_lt, by omega⟩
      · exact ⟨L, ks, rfl, s05 _ _ hL, hk, kl⟩
      · exact ⟨e1, [], rfl, s5 _ _ he1, (fun k hk => by cases hk), Nat.zero_le _⟩
    generalize upd H4 I (.lst [.ref Cc, .ref L, .ref e1]) = H5 at s5 hI s05 each ⊢
    generalize [V.ref Cc, .ref L, .ref e1] = is at hI each
    have hD5 := (s3.trans (s4.trans s5)) _ _ hD
    have hda5 := dpAll_same (s3.trans (s4.trans s5)) hda
    have hC5 := (s3.trans (s4.trans s5)) _ _ hC2
    clear hD hda hC2 s4 he1 s5 hr3 s23
    have M5 := M.same s05
    walk_at "rd"
    refine ⟨⟨_, sq hI⟩, for_it (walk_list (K := K) (a := I) (xs := is)) (fun j σ H' => ∃ (o6 o8 : Option V), σ = [some (.ref p), some (.ref d), some (.ref L), some (.ref pn), some (.ref Cc), some (.ref D), o6, none, o8, none] ∧ Same H5 H') ⟨none, none, rfl, Same.refl _⟩ (fun j σ H' _ ⟨_, _, _, s⟩ => sq (s _ _ hI)) ?_ ?_⟩
    · rintro j x σ H6a H6 hj ⟨o6, o8, rfl, s6⟩ ⟨rfl, hx⟩
      obtain ⟨a, js, rfl, ha, hjs, jl⟩ := each x (List.mem_of_getElem? hx)
      have ha6 := s6 _ _ ha
      have M6 := M5.same s6
      walk_at "rd"
      refine ⟨a, _, rfl, .inl (sq ha6), fun A1 nA => ?_⟩
      have s7 := same_new nA (o := .lst (js.map natV))
      have hA1 := upd_same (H := H6) (a := A1) (o := .lst (js.map natV))
      generalize upd H6 A1 (.lst (js.map natV)) = H7 at s7 hA1 ⊢
      have M7 := M6.same s7
      have ha7 := s7 _ _ ha6
      walk_at "rd"
      show spRun K _ _ _ _
      unfold spRun
      refine ⟨p, A1, m, js, rfl, dp_mc M7, .inl (sq hA1), mo.rows, hjs, fun b1 b2 => ?_⟩
      walk_at "rd"
      show spLast K _ _ _ _
      unfold spLast
      refine ⟨p, a, m, js, rfl, dp_mc M7, sq ha7, mo.rows, hjs, fun _ _ => ?_⟩
      walk_at "rd"
      show spIsInt _ _ _ _
      unfold spIsInt
      refine ⟨runM m js, rfl, ?_⟩
      walk_at "rd"
      have ly := lay_nats js
      refine ⟨_, _, .lst (sq hA1) (dp_nats K H7 js), .lst (sq ha7) (dp_nats K H7 js), shape ly (by decide), shape ly (by decide), ?_⟩
      rw [eq_refl ly]
      walk_at "rd"
      refine ⟨a, _, rfl, .inl ⟨sq ha7, fun t nt => ?_⟩⟩
      have s8 := same_new nt (o := .tup (js.map natV))
      have ht := upd_same (H := H7) (a := t) (o := .tup (js.map natV))
      generalize upd H7 t (.tup (js.map natV)) = H8 at s8 ht ⊢
      have M8 := M7.same s8
      walk_at "rd"
      refine ⟨p, t, m, js, rfl, dp_mc M8, .inr (sqt ht), mo.rows, hjs, fun _ _ => ?_⟩
      walk_at "rd"
      refine ⟨p, a, m, js, rfl, dp_mc M8, sq (s8 _ _ ha7), mo.rows, hjs, fun _ _ => ?_⟩
      walk_at "rd"
      exact ⟨_, _, rfl, s6.trans (s7.trans s8)⟩
    · rintro σ H6 ⟨o6, o8, rfl, s6⟩
      have M6 := M5.same s6
      have hC6 := s6 _ _ hC5
      walk_at "rd"
      show spLast K _ _ _ _
      unfold spLast
      refine ⟨p, Cc, m, cols n ws m.ns, rfl, dp_mc M6, sq hC6, mo.rows, cols_lt, fun b1 b2 => ?_⟩
      walk_at "rd"
      refine fun k dk nk ndk ne => ?_
      obtain ⟨u1, hk1⟩ := bare_new (C := C) nk ndk ne
      generalize upd (upd H6 dk (.own k)) k (.ins C dk []) = H7 at u1 hk1 ⊢
      have s07 := s05.trans (s6.trans u1)
      have M7 := M6.same u1
      refine ⟨k, dk, [], rfl, hk1, rfl, ?_⟩
      walk_at "rd"
      show spHolds K _ _ _ _
      unfold spHolds
      refine ⟨k, p, d, m, n, ws, rfl, dp_mc M7, mo.rows, mo.ends, s07 _ _ hd, wk, by omega, by omega, fun H8 s8 => ?_⟩
      have M8 := M7.same s8
      have s58 := s6.trans (u1.trans s8)
      have fin : ∀ H', Same H8 H' → Q (.bl true) H' := fun H' s' => q H' (s07.trans (s8.trans s'))
      have hold : holdM m (cols n ws m.ns) = (decide (0 ≤ runM m (cols n ws m.ns)) && decide (m.ends.getD (runM m (cols n ws m.ns)).toNat 0 = 1)) := rfl
      rw [hold]
      generalize runM m (cols n ws m.ns) = st at b1 b2 ⊢
      walk_at "rd"
      by_cases s0 : 0 ≤ st
      · rw [decide_eq_true s0, Bool.true_and]
        walk_at "rd"
        refine ⟨_, _, _, _, rfl, rfl, M8.t, atI_nat (j := 2) rfl, ?_⟩
        walk_at "rd"
        refine ⟨_, _, _, _, rfl, rfl, M8.e, ends_at M8 mo.ends s0 b2, ?_⟩
        walk_at "rd"
        have e2 : ∀ x : Int, decide (V.int x = V.int 1) = decide (x = 1) := fun x => decide_eq_decide.mpr ⟨fun z => V.int.inj z, fun z => congrArg V.int z⟩
        rw [e2]
        show spIsBool _ _ _ _
        unfold spIsBool
        refine ⟨_, rfl, ?_⟩
        refine ⟨true, rfl, ?_⟩
        refine ite2 (fun h => absurd h (by decide)) (fun _ => ?_)
        dsimp only [tNext, tRet, tOp, tAndV]
        show tLc _ _ _ _ _ _ _ _
        refine pairs_lc (a := 1) (g := wG n ws) (f := wF n ws) (ks := emp :: POOL) (by show 9 < 10; decide) (by decide) rfl ((s07.trans s8) _ _ hd) (by decide) wo.val (fun z H' => wG_F n ws z) (tup_wF n ws) (fun R hR => ?_) (fun D2 H9 us2 ys s9 h1 h0 h2 pm st2 => ?_)
        · walk_at "rd"
          exact ⟨d, _, emp :: POOL, rfl, .inl ((s07.trans s8) _ _ hd), wo.keys, by decide, fun ys p pm st np => hR p _ ys (same_new np) upd_same pm st⟩
        · have e := perm_asc pm st2 (asc_nodup pool_asc) pool_asc (fun _ => Iff.rfl)
          rw [e] at h2
          have ly := wo.lay
          walk_at "rd"
          refine ⟨_, _, .lst (sq h1) h2, .lst (sq ((s58.trans s9) _ _ hD5)) (dpAll_same (s58.trans s9) hda5), shape ly (by decide), shape ly (by decide), ?_⟩
          rw [eq_refl ly]
          walk_at "rd"
          refine fun k2 dk2 nk2 ndk2 ne2 => ?_
          obtain ⟨u2, hk2⟩ := bare_new (C := C) nk2 ndk2 ne2
          generalize upd (upd H9 dk2 (.own k2)) k2 (.ins C dk2 []) = H10 at u2 hk2 ⊢
          refine ⟨k2, dk2, [], rfl, hk2, rfl, ?_⟩
          have M10 := M8.same (s9.trans u2)
          walk_at "rd"
          show spNI K _ _ _ _
          unfold spNI
          refine ⟨k2, p, pn, pm', pe, xs, m, rfl, M10, ?_⟩
          walk_at "rd"
          have ln : Lay 1 (.tuple (m.ns.map PyData.str)) := lay_tuple (lays_strs fun z hz => pool_ok z (mo.sub z hz))
          refine ⟨_, _, names_dp M10.n, names_dp M10.n, shape ln (by decide), shape ln (by decide), ?_⟩
          rw [eq_refl ln]
          exact fin H10 (s9.trans u2)
      · rw [decide_eq_false s0, Bool.false_and]
        walk_at "rd"
        show spIsBool _ _ _ _
        unfold spIsBool
        refine ⟨_, rfl, ?_⟩
        refine ⟨true, rfl, ?_⟩
        refine ite2 (fun h => absurd h (by decide)) (fun _ => ?_)
        dsimp only [tNext, tRet, tOp, tAndV]
        show tLc _ _ _ _ _ _ _ _
        refine pairs_lc (a := 1) (g := wG n ws) (f := wF n ws) (ks := emp :: POOL) (by show 9 < 10; decide) (by decide) rfl ((s07.trans s8) _ _ hd) (by decide) wo.val (fun z H' => wG_F n ws z) (tup_wF n ws) (fun R hR => ?_) (fun D2 H9 us2 ys s9 h1 h0 h2 pm st2 => ?_)
        · walk_at "rd"
          exact ⟨d, _, emp :: POOL, rfl, .inl ((s07.trans s8) _ _ hd), wo.keys, by decide, fun ys p pm st np => hR p _ ys (same_new np) upd_same pm st⟩
        · have e := perm_asc pm st2 (asc_nodup pool_asc) pool_asc (fun _ => Iff.rfl)
          rw [e] at h2
          have ly := wo.lay
          walk_at "rd"
          refine ⟨_, _, .lst (sq h1) h2, .lst (sq ((s58.trans s9) _ _ hD5)) (dpAll_same (s58.trans s9) hda5), shape ly (by decide), shape ly (by decide), ?_⟩
          rw [eq_refl ly]
          walk_at "rd"
          refine fun k2 dk2 nk2 ndk2 ne2 => ?_
          obtain ⟨u2, hk2⟩ := bare_new (C := C) nk2 ndk2 ne2
          generalize upd (upd H9 dk2 (.own k2)) k2 (.ins C dk2 []) = H10 at u2 hk2 ⊢
          refine ⟨k2, dk2, [], rfl, hk2, rfl, ?_⟩
          have M10 := M8.same (s9.trans u2)
          walk_at "rd"
          show spNI K _ _ _ _
          unfold spNI
          refine ⟨k2, p, pn, pm', pe, xs, m, rfl, M10, ?_⟩
          walk_at "rd"
          have ln : Lay 1 (.tuple (m.ns.map PyData.str)) := lay_tuple (lays_strs fun z hz => pool_ok z (mo.sub z hz))
          refine ⟨_, _, names_dp M10.n, names_dp M10.n, shape ln (by decide), shape ln (by decide), ?_⟩
          rw [eq_refl ln]
          exact fin H10 (s9.trans u2)
end
end K36
namespace K36
local macro_rules | `(tactic| walk_at "rd") => `(tactic| repeat (first | refine ⟨rfl, ?_⟩ | refine ⟨_, rfl, ?_⟩ | refine ⟨_, _, rfl, rfl, ?_⟩ | refine ⟨⟨_, rfl⟩, ?_⟩))
open PySem PySem.Spec PyProof.Rows L2 Bx TL Dx Zx Ow Sup NdefX Px
/-! ### renaming machines -/
def idx (names : List Str) (z : Str) : Nat := names.findIdx fun y => decide (y = z)
theorem idx_at {names : List Str} {z : Str} (h : z ∈ names) : idx names z < names.length ∧ names[idx names z]? = some z ∧ ∀ m, m < idx names z → names[m]? ≠ some z := by
  have lt : idx names z < names.length := List.findIdx_lt_length_of_exists ⟨z, h, decide_eq_true rfl⟩
  refine ⟨lt, ?_, fun m hm e => ?_⟩
  · have := List.findIdx_getElem (p := fun y => decide (y = z)) (xs := names) (w := lt)
    rw [List.getElem?_eq_getElem lt]
    exact congrArg some (of_decide_eq_true this)
  · have nm := List.not_of_lt_findIdx hm
    obtain ⟨h1, h2⟩ := List.getElem?_eq_some_iff.mp e
    rw [h2] at nm
    simp at nm
def bitAt (n c i : Nat) : Nat := (c / 2 ^ (n - 1 - i)) % 2
def srcN (own names : List Str) (c : Nat) : Nat := num (own.map fun z => decide (bitAt names.length c (idx names z) = 1))
theorem srcN_lt (own names : List Str) (c : Nat) : srcN own names c < 2 ^ own.length := by
  have := num_lt (own.map fun z => decide (bitAt names.length c (idx names z) = 1))
  rw [List.length_map] at this
  exact this
def srcs (own names : List Str) : List Nat := (List.range (2 ^ names.length)).map (srcN own names)
def perm (own names : List Str) (r : List Int) : List Int := (srcs own names).map fun c => r.getD c 0
section
variable {P : Program} {w : World} {K : PySem.W.Frag} {mg : Str → Option Value} {base : Heap}
@[irreducible] def spOwn (K : PySem.W.Frag) : Sp := fun vs H Q _ => ∃ (a b : Addr) (own names : List Str), vs = [.ref a, .ref b] ∧ SqT K H a (own.map V.str) ∧ PlT H b (names.map V.str) ∧ (∀ z ∈ own, z ∈ names) ∧ own.length ≤ 4 ∧ names.length ≤ 4 ∧ ∀ r H', Same H H' → H' r = some (.lst ((srcs own names).map natV)) → Q (.ref r) H'
set_option maxHeartbeats 2000000 in
theorem ok_own_columns {f : Addr} {fd : FuncData} (F : Fun K "own_columns" "own_columns" s_own_columns f fd) (m_len : mg "len" = none) (m_range : mg "range" = none) (C__number_of : Cal P w K mg base "_number_of" 1 ["letters"] (spNum K)) : FnOk P w K mg base CX0 2 f fd ["own", "names"] (spOwn K) := by
  refine F.ok sc_own_columns (fun vs H Q E h => ?_) (fun cdv A outer s H vs Q E hr h => ?_)
  · unfold spOwn at h
    obtain ⟨a, b, own, names, rfl, _⟩ := h
    rfl
  · unfold spOwn at h
    obtain ⟨a, b, own, names, rfl, ha, hb, sub, ol, nl, q⟩ := h
    refine ⟨_, (pss_cons (ps_set (i := 2) sc_own_columns.nd rfl (Or.inr rfl) (pe_lc (own := [("name", 3)]) (tt := tYes) rfl sc_own_columns.nd (pi_tup (pv 0)) (blkOk_by (N := n_own_columns) (sc := defScope s_own_columns) (by decide +kernel)) (fun _ _ _ _ _ => pg_name (i := 3) sc_own_columns.nd rfl (Or.inl rfl)) (fun _ _ _ _ _ => pts_nil) (fun _ _ _ _ _ => (pe_op op_sub (pe_op op_sub (pe_callB (call_len_seqK (K := K) rfl) (by rfl) m_len PySem.boot_len (pa_cons (pv 1) pa_nil)) pe_int) (TiX.pe_tix (pv 1) (pa_cons (pv 3) pa_nil))))))
    (pss_one (ps_ret (pe_lc (own := [("column", 4)]) (tt := tYes) rfl sc_own_columns.nd (pi_range1 (by rfl) m_range (pa_cons (pe_op op_oneShl pe_int (pe_callB call_len_seq (by rfl) m_len PySem.boot_len (pa_cons (pv 1) pa_nil))) pa_nil)) (blkOk_by (N := n_own_columns) (sc := defScope s_own_columns) (by decide +kernel)) (fun _ _ _ _ _ => pg_name (i := 4) sc_own_columns.nd rfl (Or.inr rfl)) (fun _ _ _ _ _ => pts_nil) (fun _ _ _ _ _ => (pe_cal C__number_of (hr.mono (by decide)) (pa_cons (pe_lc (own := [("place", 5)]) (wi := iList K (tVar 2)) (tt := tYes) rfl sc_own_columns.nd (pi_list (pv 2)) (Nx.blkOk_nest (N := n_own_columns) (sc := defScope s_own_columns) rfl (by decide +kernel)) (fun _ _ _ _ _ => pg_name (i := 5) sc_own_columns.nd rfl (Or.inl rfl)) (fun _ _ _ _ _ => pts_nil) (fun _ _ _ _ _ => (pe_ix ix_str pe_str (pe_op op_odd (pe_op op_shrN (pv 4) (pv 5)) pe_int) (fun _ _ => rfl)))) pa_nil))))))), ?_⟩
    walk_at "rd"
    have ll : (names.map V.str).length = names.length := List.length_map _
    refine ⟨⟨_, ha⟩, fun D hD => ?_⟩
    refine lc_it walk_tup (fun i H' => H' = upd H D (.lst ((own.take i).map fun z => natV (names.length - 1 - idx names z)))) rfl (fun i H' _ e => e ▸ Bx.Same.tup (same_new hD) ha) ?_ ?_
    · rintro i v H2 H3 hi rfl ⟨rfl, hx⟩
      obtain ⟨z, hz, rfl⟩ := at_map hx
      obtain ⟨i1, i2, i3⟩ := idx_at (sub z (List.mem_of_getElem? hz))
      have hb2 := PlT.same (same_new (o := .lst ((own.take i).map fun z => natV (names.length - 1 - idx names z))) hD) hb
      refine ⟨rfl, ?_⟩
      walk_at "rd"
      refine ⟨b, _, rfl, .inr hb2.sq, ?_⟩
      walk_at "rd"
      refine ⟨b, names, rfl, hb2, ?_⟩
      walk_at "rd"
      refine ⟨z, idx names z, rfl, hb2, i2, i3, ?_⟩
      walk_at "rd"
      refine ⟨_, upd_same, ?_, ?_⟩
      · rw [List.length_map]
        exact szl (Nat.lt_of_le_of_lt (List.length_take_le' i own) (by omega))
      · rw [upd_upd, List.take_add_one, hz, List.map_append]
        have e : (((names.map V.str).length : Nat) : Int) - 1 - ((idx names z : Nat) : Int) = ((names.length - 1 - idx names z : Nat) : Int) := by omega
        exact congrArg (fun j : Int => upd H D (.lst (((own.take i).map fun z => natV (names.length - 1 - idx names z)) ++ [V.int j]))) e
    rintro H2 rfl
    rw [List.length_map, List.take_length]
    have s1 := same_new hD (o := .lst (own.map fun z => natV (names.length - 1 - idx names z)))
    have hW := upd_same (H := H) (a := D) (o := .lst (own.map fun z => natV (names.length - 1 - idx names z)))
    generalize upd H D (.lst (own.map fun z => natV (names.length - 1 - idx names z))) = H1 at s1 hW ⊢
    walk_at "rd"
    refine ⟨b, _, rfl, .inr (PlT.same s1 hb).sq, ?_⟩
    walk_at "rd"
    refine ⟨names.length, rfl, by rw [ll], by omega, ?_⟩
    have p16 : 2 ^ names.length ≤ 16 := Nat.pow_le_pow_right (by decide) nl
    have e2 : ((2 : Int) ^ names.length) = ((2 ^ names.length : Nat) : Int) := by rw [Int.natCast_pow]; rfl
    rw [e2]
    generalize hN : 2 ^ names.length = NN at p16 ⊢
    walk_at "rd"
    refine ⟨by omega, by omega, fun D2 hD2 => ?_⟩
    refine lc_it walk_range (fun i H' => Same H1 H' ∧ H' D2 = some (.lst (((List.range i).map (srcN own names)).map natV))) ⟨same_new hD2, upd_same⟩ (fun _ _ _ _ => trivial) ?_ ?_
    · rintro i v H2a H2 hi ⟨s2, hM⟩ ⟨rfl, rfl⟩
      have hi2 : i < NN := by omega
      refine ⟨rfl, ?_⟩
      walk_at "rd"
      have hW2 := s2 _ _ hW
      refine ⟨⟨_, sq hW2⟩, fun D3 hD3 => ?_⟩
      refine lc_it walk_list (fun j H' => H' = upd H2 D3 (.lst ((own.take j).map fun z => V.str ⟨#[97 + bitAt names.length i (idx names z)]⟩))) rfl (fun j H' _ e => e ▸ sq (same_new hD3 _ _ hW2)) ?_ ?_
      · rintro j v H4a H4 hj rfl ⟨rfl, hx⟩
        obtain ⟨z, hz, rfl⟩ := at_map hx
        refine ⟨rfl, ?_⟩
        walk_at "rd"
        have bl : bitAt names.length i (idx names z) < 2 := Nat.mod_lt _ (by decide)
        refine ⟨_, _, 97 + bitAt names.length i (idx names z), rfl, rfl, sz (by decide), ?_, ?_⟩
        · refine atI_nat ?_
          have b2 : bitAt names.length i (idx names z) = 0 ∨ bitAt names.length i (idx names z) = 1 := by omega
          show (Str.ofString "ab").cps.toList[(0 + i) / 2 ^ (names.length - 1 - idx names z) % 2]? = _
          rw [Nat.zero_add]
          show (Str.ofString "ab").cps.toList[bitAt names.length i (idx names z)]? = _
          rcases b2 with b2 | b2 <;> rw [b2] <;> decide +kernel
        refine ⟨_, upd_same, ?_, ?_⟩
        · rw [List.length_map]
          exact szl (Nat.lt_of_le_of_lt (List.length_take_le' j own) (by omega))
        · rw [upd_upd, List.take_add_one, hz, List.map_append]
          rfl
      rintro H4 rfl
      rw [List.length_map, List.take_length]
      have s3 := same_new hD3 (o := .lst (own.map fun z => V.str ⟨#[97 + bitAt names.length i (idx names z)]⟩))
      walk_at "rd"
      show spNum K _ _ _ _
      unfold spNum
      refine ⟨D3, own.map fun z => 97 + bitAt names.length i (idx names z), rfl, sq (by rw [upd_same, List.map_map]; rfl), ?_⟩
      have e4 : num ((own.map fun z => 97 + bitAt names.length i (idx names z)).map isB) = srcN own names i := by
        unfold srcN
        rw [List.map_map]
        congr 1
        refine List.map_congr_left fun z _ => ?_
        show decide (97 + bitAt names.length i (idx names z) = 98) = decide (bitAt names.length i (idx names z) = 1)
        exact decide_eq_decide.mpr (by omega)
      rw [e4]
      have hM3 := s3 _ _ hM
      refine ⟨_, hM3, ?_, same_at hD2 (s2.trans s3), ?_⟩
      · rw [List.length_map, List.length_map, List.length_range]
        exact szl (by omega)
      · rw [upd_same, List.range_succ, List.map_append, List.map_append]
        rfl
    rintro H2 ⟨s2, hM⟩
    walk_at "rd"
    subst hN
    exact q D2 H2 (s1.trans s2) hM
end
end K36
namespace K36
local macro_rules | `(tactic| walk_at "rd") => `(tactic| repeat (first | refine ⟨rfl, ?_⟩ | refine ⟨_, rfl, ?_⟩ | refine ⟨_, _, rfl, rfl, ?_⟩ | refine ⟨⟨_, rfl⟩, ?_⟩))
open PySem PySem.Spec PyProof.Rows L2 Bx TL Dx Zx Ow Sup NdefX Px
def rowL (r : List Int) : PyData := .list (r.map PyData.int)
theorem dp_rowL {K : PySem.W.Frag} {H : Hp} {q : Addr} {r : List Int} (h : SqL K H q (r.map V.int)) : Dp K H (.ref q) (rowL r) := .lst h (dp_ints K H r)
theorem rowL_dp {K : PySem.W.Frag} {H : Hp} {v : V} {r : List Int} (h : Dp K H v (rowL r)) : ∃ q, v = .ref q ∧ SqL K H q (r.map V.int) := by
  obtain ⟨q, xs, rfl, hq, ha⟩ := dp_lst h
  rw [da_ints ha] at hq
  exact ⟨q, rfl, hq⟩
theorem cut_suf (xs : List V) (k : Nat) : cutV xs (some (k : Int)) none = xs.drop k := by
  unfold cutV
  rw [HT.sIx_nat, HT.sIx_none]
  by_cases h : k ≤ xs.length
  · rw [Nat.min_eq_left h]
    exact List.take_of_length_le (by rw [List.length_drop]; exact Nat.le_refl _)
  · rw [Nat.min_eq_right (by omega), List.drop_of_length_le (show xs.length ≤ k by omega), List.drop_length]
    exact List.take_nil
theorem perm_len {own names : List Str} {r : List Int} : (perm own names r).length = 2 ^ names.length := by
  unfold perm srcs
  rw [List.length_map, List.length_map, List.length_range]
section
variable {P : Program} {w : World} {K : PySem.W.Frag} {mg : Str → Option Value} {base : Heap}
theorem slice_any {H : Hp} {a : Addr} {xs : List V} {lo hi : Option Int} (ha : SqT K H a xs) {Z : VK} (q : ∀ c' H', Same H H' → SqT K H' c' (cutV xs lo hi) → Z (.ref c') H') : rSlA K (.ref a) lo hi H Z := by
  refine ⟨a, xs, rfl, ha, fun h => ?_, fun _ p np => q p _ (same_new np) (sqt upd_same)⟩
  have e : cutV xs lo hi = xs := by
    unfold cutV
    rw [h.1, h.2, List.drop_zero, Nat.sub_zero, List.take_length]
  exact q a H (Same.refl H) (e.symm ▸ ha)
@[irreducible] def spSpr (K : PySem.W.Frag) : Sp := fun vs H Q _ => ∃ (p b : Addr) (m : Mc) (names : List Str), vs = [.ref p, .ref b] ∧ Dp K H (.ref p) (mcD m) ∧ PlT H b (names.map V.str) ∧ (∀ z ∈ m.ns, z ∈ names) ∧ m.ns.length ≤ 4 ∧ names.length ≤ 4 ∧ RowsOk m ∧ m.rows.length ≤ 100 ∧ ∀ (r : Addr) (us : List V) (H' : Hp), Same H H' → H' r = some (.lst us) → DpAll K H' us ((m.rows.map (perm m.ns names)).map rowL) → Q (.ref r) H'
set_option maxHeartbeats 2000000 in
theorem ok_spread {f : Addr} {fd : FuncData} (F : Fun K "spread_moves" "spread_moves" s_spread_moves f fd) (C_own_columns : Cal P w K mg base "own_columns" 2 ["own", "names"] (spOwn K)) : FnOk P w K mg base CX0 3 f fd ["machine", "names"] (spSpr K) := by
  refine F.ok sc_spread_moves (fun vs H Q E h => ?_) (fun cdv A outer s H vs Q E hr h => ?_)
  · unfold spSpr at h
    obtain ⟨p, b, m, names, rfl, _⟩ := h
    rfl
  · unfold spSpr at h
    obtain ⟨p, b, m, names, rfl, hp, hb, sub, nl1, nl2, ok, rl, q⟩ := h
    obtain ⟨p', pn, pm, pe, xs, ep, M⟩ := mc_dp hp
    cases ep
    refine ⟨_, (pss_cons (ps_set (i := 2) sc_spread_moves.nd rfl (Or.inr rfl) (pe_cal C_own_columns (hr.mono (by decide)) (pa_cons (pe_ix ix_tup (pv 0) pe_int (fun _ _ => rfl)) (pa_cons (pv 1) pa_nil))))
    (pss_one (ps_ret (pe_lc (own := [("row", 3)]) (tt := tYes) rfl sc_spread_moves.nd (pi_tup (pe_ix ix_tup (pv 0) pe_int (fun _ _ => rfl))) (blkOk_by (N := n_spread_moves) (sc := defScope s_spread_moves) (by decide +kernel)) (fun _ _ _ _ _ => pg_name (i := 3) sc_spread_moves.nd rfl (Or.inr rfl)) (fun _ _ _ _ _ => pts_nil) (fun _ _ _ _ _ => (pe_lc (own := [("number", 4)]) (wi := iList K (tVar 2)) (tt := tYes) rfl sc_spread_moves.nd (pi_list (pv 2)) (Nx.blkOk_nest (N := n_spread_moves) (sc := defScope s_spread_moves) rfl (by decide +kernel)) (fun _ _ _ _ _ => pg_name (i := 4) sc_spread_moves.nd rfl (Or.inl rfl)) (fun _ _ _ _ _ => pts_nil) (fun _ _ _ _ _ => (pe_ix (ix_tupK (K := K) rfl) (pv 3) (pv 4) (fun _ _ => rfl))))))))), ?_⟩
    walk_at "rd"
    refine ⟨_, _, _, _, rfl, rfl, M.t, atI_nat (j := 0) rfl, ?_⟩
    walk_at "rd"
    show spOwn K _ _ _ _
    unfold spOwn
    refine ⟨pn, b, m.ns, names, rfl, M.n, hb, sub, nl1, nl2, fun C H1 s1 hC => ?_⟩
    have M1 := M.same s1
    have xl : xs.length = m.rows.length := by rw [da_len M1.d, List.length_map]
    have p16 : 2 ^ names.length ≤ 16 := Nat.pow_le_pow_right (by decide) nl2
    walk_at "rd"
    refine ⟨_, _, _, _, rfl, rfl, M1.t, atI_nat (j := 1) rfl, ?_⟩
    refine ⟨pm, rfl, ⟨_, M1.r⟩, fun D hD => ?_⟩
    refine lc_it walk_tup (fun i H' => Same H1 H' ∧ ∃ us, H' D = some (.lst us) ∧ DpAll K (mn H' [D]) us (((m.rows.take i).map (perm m.ns names)).map rowL) ∧ us.length = i) ⟨same_new hD, [], upd_same, .nil, rfl⟩ (fun i H' _ h => Bx.Same.tup h.1 M1.r) ?_ ?_
    · rintro i v H2a H2 hi ⟨s2, us, hM, hda, ul⟩ ⟨rfl, hx⟩
      obtain ⟨r, hr0, dr⟩ := da_atM M1.d hx
      obtain ⟨q', rfl, hq⟩ := row_dp dr
      have hq2 := Bx.Same.tup s2 hq
      have rok := ok.2 r (List.mem_of_getElem? hr0)
      refine ⟨rfl, ?_⟩
      walk_at "rd"
      have hC2 := s2 _ _ hC
      refine ⟨⟨_, sq hC2⟩, fun D3 hD3 => ?_⟩
      refine lc_it walk_list (fun j H' => H' = upd H2 D3 (.lst ((((srcs m.ns names).take j).map fun c => r.getD c 0).map V.int))) rfl (fun j H' _ e => e ▸ sq (same_new hD3 _ _ hC2)) ?_ ?_
      · rintro j v H4a H4 hj rfl ⟨rfl, hx2⟩
        obtain ⟨c, hc, rfl⟩ := at_map hx2
        have cl : c < r.length := by
          obtain ⟨i2, _, rfl⟩ := List.mem_map.mp (List.mem_of_getElem? hc)
          rw [rok.1]
          exact srcN_lt _ _ _
        have hq4 := Bx.Same.tup (same_new (o := .lst ((((srcs m.ns names).take j).map fun c => r.getD c 0).map V.int)) hD3) hq2
        refine ⟨rfl, ?_⟩
        walk_at "rd"
        refine ⟨_, _, _, _, rfl, rfl, hq4, atI_nat (j := c) (v := .int (r.getD c 0)) (by rw [List.getElem?_map, List.getElem?_eq_getElem cl, List.getD_eq_getElem?_getD, List.getElem?_eq_getElem cl]; rfl), ?_⟩
        have sl : (srcs m.ns names).length ≤ 16 := by
          unfold srcs
          rw [List.length_map, List.length_range]
          exact p16
        refine ⟨_, upd_same, ?_, ?_⟩
        · rw [List.length_map, List.length_map]
          exact szl (Nat.lt_of_le_of_lt (List.length_take_le' j _) (by omega))
        · rw [upd_upd, List.take_add_one, hc, List.map_append, List.map_append]
          rfl
      rintro H4 rfl
      rw [List.length_map, List.take_length]
      have s3 := same_new hD3 (o := .lst (((srcs m.ns names).map fun c => r.getD c 0).map V.int))
      have h3 := upd_same (H := H2) (a := D3) (o := .lst (((srcs m.ns names).map fun c => r.getD c 0).map V.int))
      generalize upd H2 D3 (.lst (((srcs m.ns names).map fun c => r.getD c 0).map V.int)) = H4 at s3 h3 ⊢
      have hM4 := s3 _ _ hM
      have ne : D3 ≠ D := fun e => by
        rw [e, hM] at hD3
        cases hD3
      refine ⟨us, hM4, szl (by omega), same_at hD (s2.trans s3), us ++ [.ref D3], upd_same, ?_, by rw [List.length_append, ul]; rfl⟩
      rw [mn_upd (by simp), List.take_add_one, hr0, List.map_append, List.map_append]
      refine da_app (dpAll_same (mn_all s3) hda) (da_one (dp_rowL (r := perm m.ns names r) (sq ?_)))
      rw [mn_out (by simp [ne])]
      exact h3
    rintro H2 ⟨s2, us, hM, hda, ul⟩
    rw [xl, List.take_length] at hda
    walk_at "rd"
    exact q D us H2 (s1.trans s2) hM (dpAll_same mn_same hda)
@[irreducible] def spRearr (K : PySem.W.Frag) : Sp := fun vs H Q _ => ∃ (p d : Addr) (m : Mc) (t : Tb), vs = [.ref p, .ref d] ∧ Dp K H (.ref p) (mcD m) ∧ H d = some (.dK (tbV t)) ∧ m.ns.length ≤ 4 ∧ RowsOk m ∧ m.rows.length ≤ 100 ∧ (m.ns.map (rn t)).Nodup ∧ ∀ (v : V) (ys : List Str) (H' : Hp), Same H H' → Dp K H' v (mcD ⟨ys, m.rows.map (perm (m.ns.map (rn t)) ys), m.ends⟩) → Asc ys → (∀ x, x ∈ ys ↔ x ∈ m.ns.map (rn t)) → Q v H'
set_option maxHeartbeats 4000000 in
theorem ok_rearranged {f : Addr} {fd : FuncData} (F : Fun K "rearranged_machine" "rearranged_machine" s_rearranged_machine f fd) (m_tuple : mg "tuple" = none) (C_merge_names : CalR P w K mg base "merge_names" 1 (spMerge K)) (C_spread_moves : Cal P w K mg base "spread_moves" 3 ["machine", "names"] (spSpr K)) : FnOk P w K mg base CX0 4 f fd ["machine", "table"] (spRearr K) := by
  refine F.ok sc_rearranged_machine (fun vs H Q E h => ?_) (fun cdv A outer s H vs Q E hr h => ?_)
  · unfold spRearr at h
    obtain ⟨p, d, m, t, rfl, _⟩ := h
    rfl
  · unfold spRearr at h
    obtain ⟨p, d, m, t, rfl, hp, hd, nl, ok, rl, inj, q⟩ := h
    obtain ⟨p', pn, pm, pe, xs, ep, M⟩ := mc_dp hp
    cases ep
    have hu := hu_of hr
    refine ⟨_, (pss_cons (ps_asg (pv 0) (pg_tup rfl (pgs_cons (pg_name (i := 5) sc_rearranged_machine.nd rfl (Or.inl rfl)) (pgs_cons (pg_name (i := 6) sc_rearranged_machine.nd rfl (Or.inl rfl)) (pgs_cons (pg_name (i := 7) sc_rearranged_machine.nd rfl (Or.inl rfl)) pgs_nil)))))
    (pss_cons (ps_set (i := 2) sc_rearranged_machine.nd rfl (Or.inl rfl) (pe_callTy (T := "tuple") call_tuple_of (by rfl) m_tuple (by decide +kernel) (pa_cons (pe_lc (own := [("name", 8)]) (tt := tYes) rfl sc_rearranged_machine.nd (pi_tup (pv 5)) (blkOk_by (N := n_rearranged_machine) (sc := defScope s_rearranged_machine) (by decide +kernel)) (fun _ _ _ _ _ => pg_name (i := 8) sc_rearranged_machine.nd rfl (Or.inl rfl)) (fun _ _ _ _ _ => pts_nil) (fun _ _ _ _ _ => (pe_dget2 hu (pv 1) (pv 8) (pv 8) ⟨rfl, rfl, rfl, rfl⟩))) pa_nil)))
    (pss_cons (ps_set (i := 3) sc_rearranged_machine.nd rfl (Or.inl rfl) (pe_calR C_merge_names (hr.mono (by decide)) (pa_cons (pv 2) pa_nil)))
    (pss_cons (ps_set (i := 4) sc_rearranged_machine.nd rfl (Or.inl rfl) (pe_cal C_spread_moves (hr.mono (by decide)) (pa_cons (pe_tup (pa_cons (pv 2) (StX.pa_star (pe_slice sl_tupA (pv 0) (po_some pe_int) po_none) pa_nil))) (pa_cons (pv 3) pa_nil))))
    (pss_one (ps_ret (pe_tup (pa_cons (pv 3) (pa_cons (pe_callTy (T := "tuple") call_tuple_of (by rfl) m_tuple (by decide +kernel) (pa_cons (pe_lc (own := [("row", 9)]) (tt := tYes) rfl sc_rearranged_machine.nd (pi_list (pv 4)) (blkOk_by (N := n_rearranged_machine) (sc := defScope s_rearranged_machine) (by decide +kernel)) (fun _ _ _ _ _ => pg_name (i := 9) sc_rearranged_machine.nd rfl (Or.inl rfl)) (fun _ _ _ _ _ => pts_nil) (fun _ _ _ _ _ => (pe_callTy (T := "tuple") (call_tuple_ofK (K := K) rfl) (by rfl) m_tuple (by decide +kernel) (pa_cons (pv 9) pa_nil)))) pa_nil)) (pa_cons (pv 7) pa_nil)))))))))), ?_⟩
    walk_at "rd"
    refine ⟨_, _, rfl, M.t, rfl, _, _, rfl, _, _, rfl, _, _, rfl, rfl, ?_⟩
    walk_at "rd"
    refine ⟨⟨_, M.n⟩, fun D hD => ?_⟩
    have hdD : d ≠ D := ne_of_none hd hD
    refine lc_it walk_tup (fun i H' => H' = upd H D (.lst (((m.ns.take i).map (rn t)).map V.str))) rfl (fun i H' _ e => e ▸ Bx.Same.tup (same_new hD) M.n) ?_ ?_
    · rintro i v H2 H3 hi rfl ⟨rfl, hx⟩
      obtain ⟨z, hz, rfl⟩ := at_map hx
      refine ⟨rfl, ?_⟩
      walk_at "rd"
      have hd2 : (upd H D (.lst (((m.ns.take i).map (rn t)).map V.str))) d = some (.dK (tbV t)) := by
        rw [upd_ne hdD]
        exact hd
      refine ⟨.inl ⟨_, .inl hd2⟩, ?_⟩
      walk_at "rd"
      refine ⟨_, DGet.k (k := .inr z) hd2, ?_⟩
      rw [val_tb]
      refine ⟨_, upd_same, ?_, ?_⟩
      · rw [List.length_map, List.length_map]
        exact szl (Nat.lt_of_le_of_lt (List.length_take_le' i _) (by omega))
      · rw [upd_upd, List.take_add_one, hz, List.map_append, List.map_append]
        rfl
    rintro H2 rfl
    rw [List.length_map, List.take_length]
    have s1 := same_new hD (o := .lst ((m.ns.map (rn t)).map V.str))
    have hW := upd_same (H := H) (a := D) (o := .lst ((m.ns.map (rn t)).map V.str))
    generalize upd H D (.lst ((m.ns.map (rn t)).map V.str)) = H1 at s1 hW ⊢
    walk_at "rd"
    refine ⟨D, _, rfl, .inl ⟨sq hW, fun ar nar => ?_⟩⟩
    have s2 := same_new nar (o := .tup ((m.ns.map (rn t)).map V.str))
    have har := upd_same (H := H1) (a := ar) (o := .tup ((m.ns.map (rn t)).map V.str))
    generalize upd H1 ar (.tup ((m.ns.map (rn t)).map V.str)) = H2 at s2 har ⊢
    have s02 := s1.trans s2
    walk_at "rd"
    have rlen : (m.ns.map (rn t)).length = m.ns.length := List.length_map _
    refine ⟨[(ar, m.ns.map (rn t))], rfl, fun x hx => ?_, by show 1 ≤ 1000; decide, ?_, fun ya H3 ys s3 nya hya st nd mem => ?_⟩
    · rw [List.mem_singleton.mp hx]
      exact .inr (sqt har)
    · simp only [List.map_cons, List.map_nil, List.flatten_cons, List.flatten_nil, List.append_nil]
      omega
    have mem2 : ∀ x, x ∈ ys ↔ x ∈ m.ns.map (rn t) := fun x => by
      rw [mem x]
      simp only [List.map_cons, List.map_nil, List.flatten_cons, List.flatten_nil, List.append_nil]
    have yl : ys.length = m.ns.length := by
      rw [← rlen]
      have pm1 : ys.Perm (m.ns.map (rn t)) := (List.perm_ext_iff_of_nodup nd inj).mpr mem2
      exact pm1.length_eq
    have s03 := s02.trans s3
    have M3 := M.same s03
    walk_at "rd"
    unfold tNoPart
    dsimp only
    refine slice_any M3.t fun c4 H4 s4 hc4 => ?_
    have e4 : cutV [V.ref pn, .ref pm, .ref pe] (some 1) none = [.ref pm, .ref pe] := cut_suf _ 1
    rw [e4] at hc4
    refine ⟨c4, _, rfl, .inl hc4, ?_⟩
    walk_at "rd"
    refine ⟨sz (by show 3 ≤ 100000; decide), fun T nT => ?_⟩
    have s5 := same_new nT (o := .tup [.ref ar, .ref pm, .ref pe])
    have hT := upd_same (H := H4) (a := T) (o := .tup [.ref ar, .ref pm, .ref pe])
    show tCons _ _ _ (upd H4 T (.tup [.ref ar, .ref pm, .ref pe])) _
    generalize upd H4 T (.tup [.ref ar, .ref pm, .ref pe]) = H5 at s5 hT ⊢
    have s35 := s4.trans s5
    have s05 := s03.trans s35
    have M5 := M3.same s35
    let m2 : Mc := ⟨m.ns.map (rn t), m.rows, m.ends⟩
    have MT : MAt K H5 T ar pm pe xs m2 := ⟨sqt hT, Bx.Same.tup (s3.trans s35) (sqt har), M5.r, M5.d, M5.e⟩
    have ok2 : RowsOk m2 := ⟨ok.1, fun r hr => ⟨by rw [(ok.2 r hr).1]; show 2 ^ m.ns.length = 2 ^ (m.ns.map (rn t)).length; rw [rlen], (ok.2 r hr).2⟩⟩
    walk_at "rd"
    show spSpr K _ _ _ _
    unfold spSpr
    refine ⟨T, ya, m2, ys, rfl, dp_mc MT, PlT.same s35 hya, fun z hz => (mem2 z).mpr hz, by rw [show m2.ns.length = m.ns.length from rlen]; exact nl, by omega, ok2, rl, fun rM us H6 s6 hrM dus => ?_⟩
    have s06 := s05.trans s6
    have ul : us.length = m.rows.length := by rw [da_len dus, List.length_map, List.length_map]
    walk_at "rd"
    refine ⟨⟨_, sq hrM⟩, fun D2 hD2 => ?_⟩
    refine lc_it walk_list (fun i H' => Same H6 H' ∧ ∃ ws, H' D2 = some (.lst ws) ∧ DpAll K (mn H' [D2]) ws (((m.rows.take i).map (perm (m.ns.map (rn t)) ys)).map rowD) ∧ ws.length = i) ⟨same_new hD2, [], upd_same, .nil, rfl⟩ (fun i H' _ h => sq (h.1 _ _ hrM)) ?_ ?_
    · rintro i v H7a H7 hi ⟨s7, ws, hM, hda, wl⟩ ⟨rfl, hx⟩
      rw [List.map_map] at dus
      obtain ⟨r, hr0, dr⟩ := da_atM (dpAll_same s7 dus) hx
      obtain ⟨q', rfl, hq⟩ := rowL_dp (show Dp K H7 v (rowL (perm (m.ns.map (rn t)) ys r)) from dr)
      refine ⟨rfl, ?_⟩
      walk_at "rd"
      refine ⟨q', _, rfl, .inl ⟨hq, fun tq ntq => ?_⟩⟩
      have s8 := same_new ntq (o := .tup ((perm (m.ns.map (rn t)) ys r).map V.int))
      have h8 := upd_same (H := H7) (a := tq) (o := .tup ((perm (m.ns.map (rn t)) ys r).map V.int))
      generalize upd H7 tq (.tup ((perm (m.ns.map (rn t)) ys r).map V.int)) = H8 at s8 h8 ⊢
      have ne : tq ≠ D2 := fun e => by
        rw [e, hM] at ntq
        cases ntq
      refine ⟨ws, s8 _ _ hM, szl (by omega), same_at hD2 (s7.trans s8), ws ++ [.ref tq], upd_same, ?_, by rw [List.length_append, wl]; rfl⟩
      rw [mn_upd (by simp), List.take_add_one, hr0, List.map_append, List.map_append]
      refine da_app (dpAll_same (mn_all s8) hda) (da_one (dp_row (r := perm (m.ns.map (rn t)) ys r) (sqt ?_)))
      rw [mn_out (by simp [ne])]
      exact h8
    rintro H7 ⟨s7, ws, hM, hda, wl⟩
    rw [ul, List.take_length] at hda
    have hda2 := dpAll_same mn_same hda
    walk_at "rd"
    refine ⟨D2, _, rfl, .inl ⟨sq hM, fun aw naw => ?_⟩⟩
    have s8 := same_new naw (o := .tup ws)
    have haw := upd_same (H := H7) (a := aw) (o := .tup ws)
    generalize upd H7 aw (.tup ws) = H8 at s8 haw ⊢
    walk_at "rd"
    refine ⟨sz (by show 3 ≤ 100000; decide), fun R nR => ?_⟩
    have s9 := same_new nR (o := .tup [.ref ya, .ref aw, .ref pe])
    have s79 := s8.trans s9
    have s39 := s35.trans (s6.trans (s7.trans s79))
    refine q (.ref R) ys _ (s06.trans (s7.trans s79)) (dp_mc (pn := ya) (pm := aw) (pe := pe) (xs := ws) ⟨sqt upd_same, (PlT.same s39 hya).sq, sqt (s9 _ _ haw), dpAll_same s79 hda2, Bx.Same.tup (s03.trans s39) M.e⟩) (asc_of st nd) mem2
end
end K36
namespace K36
local macro_rules | `(tactic| walk_at "rd") => `(tactic| repeat (first | refine ⟨rfl, ?_⟩ | refine ⟨_, rfl, ?_⟩ | refine ⟨_, _, rfl, rfl, ?_⟩ | refine ⟨⟨_, rfl⟩, ?_⟩))
open PySem PySem.Spec PyProof.Rows L2 Bx TL Dx Zx Ow Sup NdefX Px
/-- m' is m with its names renamed -/
def Ren (t : Tb) (m m' : Mc) : Prop := ∃ ys, Asc ys ∧ (∀ x, x ∈ ys ↔ x ∈ m.ns.map (rn t)) ∧ m' = ⟨ys, m.rows.map (perm (m.ns.map (rn t)) ys), m.ends⟩
theorem tup_mcs : ∀ ms : List Mc, tupAll (ms.map mcD) = true
  | [] => rfl
  | m :: ms => by
    show (tupD (mcD m) && tupAll (ms.map mcD)) = true
    rw [tup_mc, tup_mcs ms]
    rfl
structure McR (t : Tb) (m : Mc) : Prop where
  ok : McOk m
  rl : m.rows.length ≤ 100
  inj : (m.ns.map (rn t)).Nodup
section
variable {P : Program} {w : World} {K : PySem.W.Frag} {mg : Str → Option Value} {base : Heap}
@[irreducible] def spRen (K : PySem.W.Frag) : Sp := fun vs H Q _ => ∃ (a T pl pms d : Addr) (xs : List V) (ms : List Mc) (t : Tb), vs = [.ref a, .ref T, .ref d] ∧ SqT K H T [.ref pl, .ref pms] ∧ SqT K H pl (POOL.map V.str) ∧ SqT K H pms xs ∧ DpAll K H xs (ms.map mcD) ∧ ms.length ≤ 10 ∧ (∀ m ∈ ms, McR t m) ∧ H d = some (.dK (tbV t)) ∧
  ∀ (R ap ar : Addr) (ys : List Str) (us : List V) (ms' : List Mc) (H' : Hp), Same H H' → SqT K H' R [.ref ap, .ref ar] → SqT K H' ap (ys.map V.str) → sortedS ys = true → ys.Nodup → (∀ x, x ∈ ys ↔ x ∈ POOL.map (rn t)) → SqT K H' ar us → DpAll K H' us (ms'.map mcD) → ms'.length = ms.length → (∀ (j : Nat) (m m' : Mc), ms[j]? = some m → ms'[j]? = some m' → Ren t m m') → Q (.ref R) H'
set_option maxHeartbeats 4000000 in
theorem ok_rename {f : Addr} {fd : FuncData} (F : Fun K "rename" "Words.rename" s_Words_rename f fd) (m_tuple : mg "tuple" = none) (C_rearranged_machine : Cal P w K mg base "rearranged_machine" 4 ["machine", "table"] (spRearr K)) (C_merge_names : CalR P w K mg base "merge_names" 1 (spMerge K)) (C_replace_names : Cal P w K mg base "replace_names" 1 ["names", "table"] (spRepl K)) : FnOk P w K mg base CX0 5 f fd ["self", "theory", "table"] (spRen K) := by
  refine F.ok sc_Words_rename (fun vs H Q E h => ?_) (fun cdv A outer s H vs Q E hr h => ?_)
  · unfold spRen at h
    obtain ⟨a, T, pl, pms, d, xs, ms, t, rfl, _⟩ := h
    rfl
  · unfold spRen at h
    obtain ⟨a, T, pl, pms, d, xs, ms, t, rfl, hT, hpl, hpm, dms, ml, mr, hd, q⟩ := h
    have xl : xs.length = ms.length := by rw [da_len dms, List.length_map]
    refine ⟨_, (pss_cons (ps_asg (pv 1) (pg_tup rfl (pgs_cons (pg_name (i := 4) sc_Words_rename.nd rfl (Or.inl rfl)) (pgs_cons (pg_name (i := 5) sc_Words_rename.nd rfl (Or.inl rfl)) pgs_nil))))
    (pss_cons (ps_set (i := 3) sc_Words_rename.nd rfl (Or.inl rfl) (pe_callTy (T := "tuple") call_tuple_of (by rfl) m_tuple (by decide +kernel) (pa_cons (pe_lc (own := [("machine", 6)]) (tt := tYes) rfl sc_Words_rename.nd (pi_tup (pv 5)) (blkOk_by (N := n_Words_rename) (sc := defScope s_Words_rename) (by decide +kernel)) (fun _ _ _ _ _ => pg_name (i := 6) sc_Words_rename.nd rfl (Or.inl rfl)) (fun _ _ _ _ _ => pts_nil) (fun _ _ _ _ _ => (pe_cal C_rearranged_machine (hr.mono (by decide)) (pa_cons (pv 6) (pa_cons (pv 2) pa_nil))))) pa_nil)))
    (pss_one (ps_ret (pe_tup (pa_cons (pe_calR C_merge_names (hr.mono (by decide)) (pa_cons (pe_cal C_replace_names (hr.mono (by decide)) (pa_cons (pv 4) (pa_cons (pv 2) pa_nil))) pa_nil)) (pa_cons (pv 3) pa_nil))))))), ?_⟩
    walk_at "rd"
    refine ⟨_, _, rfl, hT, rfl, _, _, rfl, _, _, rfl, rfl, ?_⟩
    walk_at "rd"
    refine ⟨⟨_, hpm⟩, fun D hD => ?_⟩
    refine lc_it walk_tup (fun i H' => Same H H' ∧ ∃ (us : List V) (ms' : List Mc), H' D = some (.lst us) ∧ DpAll K H' us (ms'.map mcD) ∧ ms'.length = i ∧ (∀ (j : Nat) (m m' : Mc), ms[j]? = some m → ms'[j]? = some m' → Ren t m m')) ⟨same_new hD, [], [], upd_same, .nil, rfl, fun j m m' _ h => (by simp at h)⟩ (fun i H' _ h => Bx.Same.tup h.1 hpm) ?_ ?_
    · rintro i v H2a H2 hi ⟨s2, us, ms', hM, hda, ul, ren⟩ ⟨rfl, hx⟩
      obtain ⟨m, hm, dm⟩ := da_atM dms hx
      obtain ⟨p', pn, pm', pe, xs', rfl, M⟩ := mc_dp dm
      have mo := mr m (List.mem_of_getElem? hm)
      refine ⟨rfl, ?_⟩
      walk_at "rd"
      show spRearr K _ _ _ _
      unfold spRearr
      refine ⟨p', d, m, t, rfl, dp_same s2 dm, s2 _ _ hd, mo.ok.nl, mo.ok.rows, mo.rl, mo.inj, fun v ys H3 s3 dv as mem => ?_⟩
      have hM3 := s3 _ _ hM
      have wl : us.length = ms'.length := by rw [da_len hda, List.length_map]
      have tk := tk_lst (K := K) (o := .lst (us ++ [v])) hM3
      refine ⟨us, hM3, szl (by omega), same_at hD (s2.trans s3), us ++ [v], ms' ++ [⟨ys, m.rows.map (perm (m.ns.map (rn t)) ys), m.ends⟩], upd_same, ?_, by rw [List.length_append, ul]; rfl, fun j m1 m1' h1 h2 => ?_⟩
      · rw [List.map_append]
        exact da_app (da_tk tk _ _ (tup_mcs ms') (dpAll_same s3 hda)) (da_one (dp_tk tk _ _ (tup_mc _) dv))
      · by_cases hj : j < ms'.length
        · rw [List.getElem?_append_left hj] at h2
          exact ren j m1 m1' h1 h2
        · rw [List.getElem?_append_right (by omega)] at h2
          obtain ⟨hj2, e2⟩ := List.getElem?_eq_some_iff.mp h2
          have j0 : j = i := by
            simp only [List.length_cons, List.length_nil] at hj2
            omega
          subst j0
          rw [hm] at h1
          cases h1
          rw [ul, Nat.sub_self] at h2
          cases h2
          exact ⟨ys, as, mem, rfl⟩
    rintro H2 ⟨s2, us, ms', hM, hda, ul, ren⟩
    rw [xl] at ul
    walk_at "rd"
    refine ⟨D, _, rfl, .inl ⟨sq hM, fun ar nar => ?_⟩⟩
    have s3 := same_new nar (o := .tup us)
    have har := upd_same (H := H2) (a := ar) (o := .tup us)
    have hda3 := dpAll_same s3 hda
    generalize upd H2 ar (.tup us) = H3 at s3 har hda3 ⊢
    have s03 := s2.trans s3
    walk_at "rd"
    show spRepl K _ _ _ _
    unfold spRepl
    refine ⟨pl, d, POOL, t, rfl, .inr (Bx.Same.tup s03 hpl), s03 _ _ hd, by decide, fun r H4 s4 nr hr4 => ?_⟩
    walk_at "rd"
    refine ⟨[(r, POOL.map (rn t))], rfl, fun x hx => ?_, by show 1 ≤ 1000; decide, ?_, fun ya H5 ys s5 nya hya st nd mem => ?_⟩
    · rw [List.mem_singleton.mp hx]
      exact .inl (sq hr4)
    · simp only [List.map_cons, List.map_nil, List.flatten_cons, List.flatten_nil, List.append_nil, List.length_map]
      decide
    have mem2 : ∀ x, x ∈ ys ↔ x ∈ POOL.map (rn t) := fun x => by
      rw [mem x]
      simp only [List.map_cons, List.map_nil, List.flatten_cons, List.flatten_nil, List.append_nil]
    walk_at "rd"
    refine ⟨sz (by show 2 ≤ 100000; decide), fun R nR => ?_⟩
    have s6 := same_new nR (o := .tup [.ref ya, .ref ar])
    have s36 := s4.trans (s5.trans s6)
    exact q R ya ar ys us ms' _ (s03.trans s36) (sqt upd_same) (PlT.same s6 hya).sq st nd mem2 (Bx.Same.tup s36 (sqt har)) (dpAll_same s36 hda3) ul ren
/-! ### the law's own renaming -/
@[irreducible] def spPool (K : PySem.W.Frag) : Sp := fun vs H Q _ => vs = [] ∧ ∀ r, H r = none → Q (.ref r) (upd H r (.tup (POOL.map V.str)))
theorem ok_pool {f : Addr} {fd : FuncData} (F : Fun K "_law_pool" "_law_pool" s__law_pool f fd) : FnOk P w K mg base CX0 1 f fd [] (spPool K) := by
  refine F.ok sc__law_pool (fun vs H Q E h => ?_) (fun cdv A outer s H vs Q E hr h => ?_)
  · unfold spPool at h
    obtain ⟨rfl, _⟩ := h
    rfl
  · unfold spPool at h
    obtain ⟨rfl, q⟩ := h
    refine ⟨_, (pss_one (ps_ret (pe_tup (pa_cons pe_str (pa_cons pe_str (pa_cons pe_str (pa_cons pe_str pa_nil))))))), ?_⟩
    walk_at "rd"
    exact ⟨sz (by show 4 ≤ 100000; decide), fun r nr => q r nr⟩
end
def letN : Nat → List (List Int)
  | 0 => [[]]
  | k + 1 => (letN k).flatMap fun l => [l ++ [0], l ++ [1]]
def bitsI (n c : Nat) : List Int := (List.range n).map fun i => ((bitAt n c i : Nat) : Int)
theorem let_bits : ∀ n, n ≤ 4 → letN n = (List.range (2 ^ n)).map (bitsI n) := by
  intro n hn
  have h : n = 0 ∨ n = 1 ∨ n = 2 ∨ n = 3 ∨ n = 4 := by omega
  rcases h with rfl | rfl | rfl | rfl | rfl <;> decide +kernel
theorem let_len : ∀ n, n ≤ 4 → (letN n).length ≤ 16 := fun n hn => by
  rw [let_bits n hn, List.length_map, List.length_range]
  exact Nat.pow_le_pow_right (by decide) hn
end K36
namespace K36
local macro_rules | `(tactic| walk_at "rd") => `(tactic| repeat (first | refine ⟨rfl, ?_⟩ | refine ⟨_, rfl, ?_⟩ | refine ⟨_, _, rfl, rfl, ?_⟩ | refine ⟨⟨_, rfl⟩, ?_⟩))
open PySem PySem.Spec PyProof.Rows L2 Bx TL Dx Zx Ow Sup NdefX Px
/-- new lists, one for each row of letters -/
def LetAt (H H' : Hp) (us : List V) (ls : List (List Int)) : Prop := us.length = ls.length ∧ ∀ (j : Nat) (l : List Int), ls[j]? = some l → ∃ q, us[j]? = some (.ref q) ∧ H q = none ∧ H' q = some (.lst (l.map V.int))
def LetM (M : Addr) (H H' : Hp) (us : List V) (ls : List (List Int)) : Prop := us.length = ls.length ∧ ∀ (j : Nat) (l : List Int), ls[j]? = some l → ∃ q, us[j]? = some (.ref q) ∧ H q = none ∧ q ≠ M ∧ H' q = some (.lst (l.map V.int))
theorem LetM.snoc {M : Addr} {H H1 H2 : Hp} {us : List V} {ls : List (List Int)} {q : Addr} {l : List Int} (h : LetM M H H1 us ls) (k : ∀ b o, b ≠ M → H1 b = some o → H2 b = some o) (hq : H q = none) (ne : q ≠ M) (e : H2 q = some (.lst (l.map V.int))) : LetM M H H2 (us ++ [.ref q]) (ls ++ [l]) := by
  refine ⟨by rw [List.length_append, List.length_append, h.1]; rfl, fun j l' hj => ?_⟩
  by_cases c : j < ls.length
  · rw [List.getElem?_append_left c] at hj
    obtain ⟨q', a, b, c', d⟩ := h.2 j l' hj
    exact ⟨q', by rw [List.getElem?_append_left (by rw [h.1]; exact c)]; exact a, b, c', k _ _ c' d⟩
  · rw [List.getElem?_append_right (by omega)] at hj
    obtain ⟨hj2, e2⟩ := List.getElem?_eq_some_iff.mp hj
    have j0 : j = ls.length := by
      simp only [List.length_cons, List.length_nil] at hj2
      omega
    subst j0
    rw [Nat.sub_self] at hj
    cases hj
    exact ⟨q, by rw [← h.1, List.getElem?_append_right (Nat.le_refl _), Nat.sub_self]; rfl, hq, ne, e⟩
theorem let_row {k : Nat} (hk : k ≤ 4) : ∀ l ∈ letN k, l.length ≤ 4 := fun l hm => by
  rw [let_bits k hk] at hm
  obtain ⟨c, _, e⟩ := List.mem_map.mp hm
  rw [← e]
  unfold bitsI
  rw [List.length_map, List.length_range]
  exact hk
section
variable {P : Program} {w : World} {K : PySem.W.Frag} {mg : Str → Option Value} {base : Heap}
@[irreducible] def spLet (K : PySem.W.Frag) : Sp := fun vs H Q _ => ∃ n : Nat, vs = [.int (n : Nat)] ∧ n ≤ 4 ∧ ∀ (r : Addr) (us : List V) (H' : Hp), Same H H' → H r = none → H' r = some (.lst us) → LetAt H H' us (letN n) → Q (.ref r) H'
set_option maxHeartbeats 2000000 in
theorem ok_letters {f : Addr} {fd : FuncData} (F : Fun K "_law_letters" "_law_letters" s__law_letters f fd) (m_range : mg "range" = none) (m_list : mg "list" = none) : FnOk P w K mg base CX0 1 f fd ["_law_count"] (spLet K) := by
  refine F.ok sc__law_letters (fun vs H Q E h => ?_) (fun cdv A outer s H vs Q E hr h => ?_)
  · unfold spLet at h
    obtain ⟨n, rfl, _⟩ := h
    rfl
  · unfold spLet at h
    obtain ⟨n, rfl, hn, q⟩ := h
    refine ⟨_, (pss_cons (ps_set (i := 1) sc__law_letters.nd rfl (Or.inl rfl) (pe_lst (pa_cons (pe_lst pa_nil) pa_nil)))
    (pss_cons (ps_for PassesOwn.never rfl (pi_range1 (by rfl) m_range (pa_cons (pv 0) pa_nil)) (pg_name (i := 2) sc__law_letters.nd rfl (Or.inl rfl))
      (pss_cons (ps_set (i := 3) sc__law_letters.nd rfl (Or.inl rfl) (pe_lst pa_nil))
    (pss_cons (ps_for PassesOwn.never rfl (pi_list (pv 1)) (pg_name (i := 4) sc__law_letters.nd rfl (Or.inl rfl))
      (pss_cons (ps_expr (pe_bm PySem.F.plainAttrs_list PySem.F.slot_list_append PySem.F.type_list_append mt_append (pv 3) (pa_cons (pe_op op_cat (pv 4) (pe_lst (pa_cons pe_int pa_nil))) pa_nil)))
    (pss_one (ps_expr (pe_bm PySem.F.plainAttrs_list PySem.F.slot_list_append PySem.F.type_list_append mt_append (pv 3) (pa_cons (pe_op op_cat (pv 4) (pe_lst (pa_cons pe_int pa_nil))) pa_nil))))))
    (pss_one (ps_set (i := 1) sc__law_letters.nd rfl (Or.inl rfl) (pe_callTy (T := "list") call_list_of (by rfl) m_list (by decide +kernel) (pa_cons (pv 3) pa_nil)))))))
    (pss_one (ps_ret (pv 1))))), ?_⟩
    walk_at "rd"
    refine ⟨sz (by decide), fun e0 ne0 => ?_⟩
    have s1 := same_new ne0 (o := .lst ([] : List V))
    have he0 := upd_same (H := H) (a := e0) (o := .lst ([] : List V))
    generalize upd H e0 (.lst []) = H1 at s1 he0 ⊢
    refine ⟨sz (by show 1 ≤ 100000; decide), fun F0 nF0 => ?_⟩
    have s2 := same_new nF0 (o := .lst [.ref e0])
    have hF0 := upd_same (H := H1) (a := F0) (o := .lst [.ref e0])
    have nF00 := s1.free nF0
    have he2 := s2 _ _ he0
    have s02 := s1.trans s2
    generalize upd H1 F0 (.lst [.ref e0]) = H2 at s2 hF0 he2 s02 ⊢
    walk_at "rd"
    refine ⟨by omega, by omega, for_it walk_range (fun k σ H' => ∃ (o2 o3 o4 : Option V) (Fa : Addr) (us : List V), σ = [some (.int (n : Nat)), some (.ref Fa), o2, o3, o4] ∧ Same H H' ∧ H Fa = none ∧ H' Fa = some (.lst us) ∧ LetAt H H' us (letN k))
      ⟨none, none, none, F0, [.ref e0], rfl, s02, nF00, hF0, rfl, fun j l hj => (by
        cases j with
        | zero =>
          cases hj
          exact ⟨e0, rfl, ne0, he2⟩
        | succ j => cases hj)⟩ (fun _ _ _ _ _ => trivial) ?_ ?_⟩
    · rintro k x σ H3a H3 hk ⟨o2, o3, o4, Fa, us, rfl, s3, nFa, hFa, la⟩ ⟨rfl, rfl⟩
      have hk2 : k < 4 := by omega
      have ll := let_len k (by omega)
      walk_at "rd"
      refine ⟨sz (by decide), fun M nM => ?_⟩
      have s4 := same_new nM (o := .lst ([] : List V))
      have hM := upd_same (H := H3) (a := M) (o := .lst ([] : List V))
      generalize upd H3 M (.lst []) = H4 at s4 hM ⊢
      have nM0 := s3.free nM
      walk_at "rd"
      have hFa4 := s4 _ _ hFa
      refine ⟨⟨_, sq hFa4⟩, for_it walk_list (fun j σ H' => ∃ (o4 : Option V) (ws : List V), σ = [some (.int (n : Nat)), some (.ref Fa), some (.int (0 + (k : Nat))), some (.ref M), o4] ∧ Same H3 H' ∧ H' M = some (.lst ws) ∧ LetM M H H' ws (((letN k).take j).flatMap fun l => [l ++ [0], l ++ [1]]) ∧ ws.length = 2 * j)
        ⟨o4, [], rfl, s4, hM, ⟨rfl, fun j l hj => (by cases hj)⟩, rfl⟩ (fun j σ H' _ ⟨_, _, _, s, _⟩ => sq (s _ _ hFa)) ?_ ?_⟩
      · rintro j x σ H5a H5 hj ⟨o4, ws, rfl, s5, hM5, lm, wl⟩ ⟨rfl, hx⟩
        have jl : j < (letN k).length := by rw [← la.1]; exact hj
        obtain ⟨q1, a1, a2, a3⟩ := la.2 j _ (List.getElem?_eq_getElem jl)
        rw [a1] at hx
        cases hx
        have hl : (letN k)[j]? = some (letN k)[j] := List.getElem?_eq_getElem jl
        have lr := let_row (by omega) _ (List.getElem_mem jl)
        generalize (letN k)[j] = l at a3 hl lr
        have hq5 := s5 _ _ a3
        walk_at "rd"
        refine ⟨.inl ⟨rfl, _, sq hM5⟩, ?_⟩
        walk_at "rd"
        refine ⟨sz (by show 1 ≤ 100000; decide), fun A1 nA1 => ?_⟩
        have s6 := same_new nA1 (o := .lst [V.int 0])
        have hA1 := upd_same (H := H5) (a := A1) (o := .lst [V.int 0])
        generalize upd H5 A1 (.lst [V.int 0]) = H6 at s6 hA1 ⊢
        refine ⟨q1, A1, l.map V.int, [.int 0], rfl, rfl, s6 _ _ hq5, hA1, sz (by rw [List.length_map]; show l.length + 1 ≤ 100000; omega), fun B nB => ?_⟩
        have s7 := same_new nB (o := .lst (l.map V.int ++ [.int 0]))
        have hB := upd_same (H := H6) (a := B) (o := .lst (l.map V.int ++ [.int 0]))
        generalize upd H6 B (.lst (l.map V.int ++ [.int 0])) = H7 at s7 hB ⊢
        have s57 := s6.trans s7
        have hM7 := s57 _ _ hM5
        have nB0 := (s3.trans (s5.trans s6)).free nB
        have BM : B ≠ M := fun e => by
          rw [e, s6 _ _ hM5] at nB
          cases nB
        walk_at "rd"
        refine ⟨M, _, _, rfl, rfl, hM7, szl (by omega), ?_⟩
        have s8 : Same H3 (upd H7 M (.lst (ws ++ [.ref B]))) := same_at nM (s5.trans s57)
        have k8 : ∀ b o, b ≠ M → H5 b = some o → (upd H7 M (.lst (ws ++ [.ref B]))) b = some o := fun b o ne e => by
          rw [upd_ne ne]
          exact s57 _ _ e
        have l8 := lm.snoc (q := B) (l := l ++ [0]) k8 nB0 BM (by rw [upd_ne BM, hB, List.map_append]; rfl)
        have hM8 := upd_same (H := H7) (a := M) (o := .lst (ws ++ [.ref B]))
        have hq8 := k8 _ _ (fun e => by rw [← e, a3] at nM; cases nM) hq5
        generalize upd H7 M (.lst (ws ++ [.ref B])) = H8 at s8 l8 hM8 hq8 ⊢
        walk_at "rd"
        refine ⟨.inl ⟨rfl, _, sq hM8⟩, ?_⟩
        walk_at "rd"
        refine ⟨sz (by show 1 ≤ 100000; decide), fun A2 nA2 => ?_⟩
        have s9 := same_new nA2 (o := .lst [V.int 1])
        have hA2 := upd_same (H := H8) (a := A2) (o := .lst [V.int 1])
        generalize upd H8 A2 (.lst [V.int 1]) = H9 at s9 hA2 ⊢
        refine ⟨q1, A2, l.map V.int, [.int 1], rfl, rfl, s9 _ _ hq8, hA2, sz (by rw [List.length_map]; show l.length + 1 ≤ 100000; omega), fun B2 nB2 => ?_⟩
        have s10 := same_new nB2 (o := .lst (l.map V.int ++ [.int 1]))
        have hB2 := upd_same (H := H9) (a := B2) (o := .lst (l.map V.int ++ [.int 1]))
        generalize upd H9 B2 (.lst (l.map V.int ++ [.int 1])) = H10 at s10 hB2 ⊢
        have s810 := s9.trans s10
        have hM10 := s810 _ _ hM8
        have nB20 := (s3.trans (s8.trans s9)).free nB2
        have BM2 : B2 ≠ M := fun e => by
          rw [e, s9 _ _ hM8] at nB2
          cases nB2
        walk_at "rd"
        refine ⟨M, _, _, rfl, rfl, hM10, szl (by rw [List.length_append]; show ws.length + 1 < 100000; omega), ?_⟩
        have k11 : ∀ b o, b ≠ M → H8 b = some o → (upd H10 M (.lst (ws ++ [.ref B] ++ [.ref B2]))) b = some o := fun b o ne e => by
          rw [upd_ne ne]
          exact s810 _ _ e
        have l11 := l8.snoc (q := B2) (l := l ++ [1]) k11 nB20 BM2 (by rw [upd_ne BM2, hB2, List.map_append]; rfl)
        refine ⟨_, _, rfl, same_at nM (s8.trans s810), upd_same, ?_, by rw [List.length_append, List.length_append]; show ws.length + 1 + 1 = 2 * (j + 1); omega⟩
        rw [List.take_add_one, hl, List.flatMap_append]
        have e : ((some l).toList.flatMap fun l : List Int => [l ++ [0], l ++ [1]]) = [l ++ [0]] ++ [l ++ [1]] := rfl
        rw [e, ← List.append_assoc]
        exact l11
      · rintro σ H5 ⟨o4, ws, rfl, s5, hM5, lm, wl⟩
        rw [la.1, List.take_length] at lm
        walk_at "rd"
        refine ⟨M, _, rfl, .inl (sq hM5), fun Fb nFb => ?_⟩
        have s6 := same_new nFb (o := .lst ws)
        refine ⟨_, _, _, Fb, ws, rfl, s3.trans (s5.trans s6), (s3.trans s5).free nFb, upd_same, lm.1, fun j l hj => ?_⟩
        obtain ⟨q1, b1, b2, b3, b4⟩ := lm.2 j l hj
        exact ⟨q1, b1, b2, s6 _ _ b4⟩
    · rintro σ H3 ⟨o2, o3, o4, Fa, us, rfl, s3, nFa, hFa, la⟩
      walk_at "rd"
      have e : (((n : Nat) : Int)).toNat = n := Int.toNat_natCast n
      rw [e] at la
      exact q Fa us H3 s3 nFa hFa la
@[irreducible] def spLRen (K : PySem.W.Frag) : Sp := fun vs H Q _ => ∃ (p d : Addr) (m : Mc) (t : Tb), vs = [.ref p, .ref d] ∧ Dp K H (.ref p) (mcD m) ∧ H d = some (.dK (tbV t)) ∧ m.ns.length ≤ 4 ∧ RowsOk m ∧ m.rows.length ≤ 100 ∧ ∀ (R a b pe : Addr) (ys : List Str) (us : List V) (H' : Hp), Same H H' → ys.Perm (m.ns.map (rn t)) → sortedS ys = true → SqT K H' R [.ref a, .ref b, .ref pe] → SqT K H' a (ys.map V.str) → H' b = some (.lst us) → DpAll K H' us ((m.rows.map (perm (m.ns.map (rn t)) ys)).map rowL) → SqT K H' pe (m.ends.map V.int) → Q (.ref R) H'
set_option maxHeartbeats 4000000 in
theorem ok_lrenamed {f : Addr} {fd : FuncData} (F : Fun K "_law_renamed" "_law_renamed" s__law_renamed f fd) (m_sorted : mg "sorted" = none) (m_len : mg "len" = none) (m_tuple : mg "tuple" = none) (C__law_letters : Cal P w K mg base "_law_letters" 1 ["_law_count"] (spLet K)) : FnOk P w K mg base CX0 2 f fd ["_law_machine_here", "_law_table_here"] (spLRen K) := by
  refine F.ok sc__law_renamed (fun vs H Q E h => ?_) (fun cdv A outer s H vs Q E hr h => ?_)
  · unfold spLRen at h
    obtain ⟨p, d, m, t, rfl, _⟩ := h
    rfl
  · unfold spLRen at h
    obtain ⟨p, d, m, t, rfl, hp, hd, nl, ok, rl, q⟩ := h
    obtain ⟨p', pn, pm', pe, xs, ep, M⟩ := mc_dp hp
    cases ep
    have hu := hu_of hr
    have xl : xs.length = m.rows.length := by rw [da_len M.d, List.length_map]
    refine ⟨_, (pss_cons (ps_setLc (i := 2) (own := [("_law_name", 8)]) (tt := tYes) rfl sc__law_renamed.nd rfl rfl (sw_true rfl rfl rfl (by decide +kernel)) (pi_tup (pe_ix ix_tup (pv 0) pe_int (fun _ _ => rfl))) (blkOk_by (N := n__law_renamed) (sc := defScope s__law_renamed) (by decide +kernel)) (fun _ _ _ _ _ => pg_name (i := 8) sc__law_renamed.nd rfl (Or.inl rfl)) (fun _ _ _ _ _ => pts_nil) (fun _ _ _ _ _ => (pe_dget2 hu (pv 1) (pv 8) (pv 8) ⟨rfl, rfl, rfl, rfl⟩)))
    (pss_cons (ps_set (i := 3) sc__law_renamed.nd rfl (Or.inl rfl) (pe_callB (id := "sorted") cr_sortedS (by rfl) m_sorted (by decide +kernel) (pa_cons (pv 2) pa_nil)))
    (pss_cons (ps_set (i := 4) sc__law_renamed.nd rfl (Or.inl rfl) (pe_lst pa_nil))
    (pss_cons (ps_for PassesOwn.never rfl (pi_tup (pe_ix ix_tup (pv 0) pe_int (fun _ _ => rfl))) (pg_name (i := 5) sc__law_renamed.nd rfl (Or.inl rfl))
      (pss_cons (ps_set (i := 6) sc__law_renamed.nd rfl (Or.inl rfl) (pe_lst pa_nil))
    (pss_cons (ps_for PassesOwn.never rfl (pi_list (pe_cal C__law_letters (hr.mono (by decide)) (pa_cons (pe_callB call_len_seq (by rfl) m_len PySem.boot_len (pa_cons (pv 2) pa_nil)) pa_nil))) (pg_name (i := 7) sc__law_renamed.nd rfl (Or.inl rfl))
      (pss_cons (ps_set (i := 9) sc__law_renamed.nd rfl (Or.inl rfl) pe_int)
    (pss_cons (ps_for PassesOwn.never rfl (pi_list (pv 2)) (pg_name (i := 8) sc__law_renamed.nd rfl (Or.inl rfl))
      (pss_one (ps_set (i := 9) sc__law_renamed.nd rfl (Or.inl rfl) (pe_op op_add (pe_op op_mul pe_int (pv 9)) (pe_ix ix_list (pv 7) (pe_bm PySem.F.plainAttrs_list PySem.F.slot_list_index PySem.F.type_list_index mt_index (pv 3) (pa_cons (pv 8) pa_nil)) (fun _ _ => rfl))))))
    (pss_one (ps_expr (pe_bm PySem.F.plainAttrs_list PySem.F.slot_list_append PySem.F.type_list_append mt_append (pv 6) (pa_cons (pe_ix ix_tup (pv 5) (pv 9) (fun _ _ => rfl)) pa_nil)))))))
    (pss_one (ps_expr (pe_bm PySem.F.plainAttrs_list PySem.F.slot_list_append PySem.F.type_list_append mt_append (pv 4) (pa_cons (pv 6) pa_nil)))))))
    (pss_one (ps_ret (pe_tup (pa_cons (pe_callTy (T := "tuple") call_tuple_of (by rfl) m_tuple (by decide +kernel) (pa_cons (pv 3) pa_nil)) (pa_cons (pv 4) (pa_cons (pe_ix ix_tup (pv 0) pe_int (fun _ _ => rfl)) pa_nil)))))))))), ?_⟩
    walk_at "rd"
    refine ⟨_, _, _, _, rfl, rfl, M.t, atI_nat (j := 0) rfl, ?_⟩
    refine ⟨pn, rfl, ⟨_, M.n⟩, fun D hD => ?_⟩
    have hdD : d ≠ D := ne_of_none hd hD
    refine lc_it walk_tup (fun i H' => H' = upd H D (.lst (((m.ns.take i).map (rn t)).map V.str))) rfl (fun i H' _ e => e ▸ Bx.Same.tup (same_new hD) M.n) ?_ ?_
    · rintro i v H2 H3 hi rfl ⟨rfl, hx⟩
      obtain ⟨z, hz, rfl⟩ := at_map hx
      refine ⟨rfl, ?_⟩
      walk_at "rd"
      have hd2 : (upd H D (.lst (((m.ns.take i).map (rn t)).map V.str))) d = some (.dK (tbV t)) := by
        rw [upd_ne hdD]
        exact hd
      refine ⟨.inl ⟨_, .inl hd2⟩, ?_⟩
      walk_at "rd"
      refine ⟨_, DGet.k (k := .inr z) hd2, ?_⟩
      rw [val_tb]
      refine ⟨_, upd_same, ?_, ?_⟩
      · rw [List.length_map, List.length_map]
        exact szl (Nat.lt_of_le_of_lt (List.length_take_le' i _) (by omega))
      · rw [upd_upd, List.take_add_one, hz, List.map_append, List.map_append]
        rfl
    rintro H2 rfl
    rw [List.length_map, List.take_length]
    have s1 := same_new hD (o := .lst ((m.ns.map (rn t)).map V.str))
    have hW := upd_same (H := H) (a := D) (o := .lst ((m.ns.map (rn t)).map V.str))
    generalize upd H D (.lst ((m.ns.map (rn t)).map V.str)) = H1 at s1 hW ⊢
    have fl : (m.ns.map (rn t)).length = m.ns.length := List.length_map _
    walk_at "rd"
    refine ⟨D, m.ns.map (rn t), rfl, sq hW, by omega, fun ys So pm st nSo => ?_⟩
    have yl : ys.length = m.ns.length := by rw [pm.length_eq, fl]
    generalize m.ns.map (rn t) = fs at hW fl pm q ⊢
    have s2 := same_new nSo (o := .lst (ys.map V.str))
    have hSo := upd_same (H := H1) (a := So) (o := .lst (ys.map V.str))
    generalize upd H1 So (.lst (ys.map V.str)) = H2 at s2 hSo ⊢
    have hW2 := s2 _ _ hW
    walk_at "rd"
    refine ⟨sz (by decide), fun R nR => ?_⟩
    have s3 := same_new nR (o := .lst ([] : List V))
    have hR := upd_same (H := H2) (a := R) (o := .lst ([] : List V))
    have s02 := s1.trans s2
    generalize upd H2 R (.lst []) = H3 at s3 hR ⊢
    have M3 := M.same (s02.trans s3)
    walk_at "rd"
    refine ⟨_, _, _, _, rfl, rfl, M3.t, atI_nat (j := 1) rfl, ?_⟩
    have M2 := M.same s02
    refine ⟨pm', rfl, ⟨_, M3.r⟩, for_it (walk_tup (K := K) (a := pm') (xs := xs)) (fun i σ H' => ∃ (o5 o6 o7 o8 o9 : Option V) (us : List V), σ = [some (.ref p), some (.ref d), some (.ref D), some (.ref So), some (.ref R), o5, o6, o7, o8, o9] ∧ Same H2 H' ∧ H' R = some (.lst us) ∧ DpAll K (mn H' [R]) us (((m.rows.take i).map (perm fs ys)).map rowL) ∧ us.length = i)
      ⟨none, none, none, none, none, [], rfl, s3, hR, .nil, rfl⟩ (fun i σ H' _ ⟨_, _, _, _, _, _, _, s, _⟩ => Bx.Same.tup s M2.r) ?_ ?_⟩
    · rintro i x σ H4a H4 hi ⟨o5, o6, o7, o8, o9, us, rfl, s4, hR4, hda, ul⟩ ⟨rfl, hx⟩
      obtain ⟨r, hr0, dr⟩ := da_atM M2.d hx
      obtain ⟨q', rfl, hq⟩ := row_dp dr
      have rok := ok.2 r (List.mem_of_getElem? hr0)
      walk_at "rd"
      refine ⟨sz (by decide), fun Cg nCg => ?_⟩
      have s5 := same_new nCg (o := .lst ([] : List V))
      have hCg := upd_same (H := H4) (a := Cg) (o := .lst ([] : List V))
      generalize upd H4 Cg (.lst []) = H5 at s5 hCg ⊢
      have s25 := s4.trans s5
      walk_at "rd"
      refine ⟨D, _, rfl, .inl (sq (s25 _ _ hW2)), ?_⟩
      walk_at "rd"
      show spLet K _ _ _ _
      unfold spLet
      refine ⟨m.ns.length, by rw [List.length_map, fl], nl, fun LL lus H6 s6 nLL hLL la => ?_⟩
      have LCg : LL ≠ Cg := (ne_of_none hCg nLL).symm
      have s46 := s5.trans s6
      have hCg6 := s6 _ _ hCg
      have p16 : 2 ^ m.ns.length ≤ 16 := Nat.pow_le_pow_right (by decide) nl
      have ll : lus.length = 2 ^ m.ns.length := by rw [la.1, let_bits _ nl, List.length_map, List.length_range]
      refine ⟨LL, rfl, ⟨_, sq hLL⟩, for_it (walk_list (K := K) (a := LL) (xs := lus)) (fun c σ H' => ∃ (o7 o8 o9 : Option V), σ = [some (.ref p), some (.ref d), some (.ref D), some (.ref So), some (.ref R), some (.ref q'), some (.ref Cg), o7, o8, o9] ∧ Same H4 H' ∧ SameBut Cg H6 H' ∧ H' Cg = some (.lst ((((srcs fs ys).take c).map fun s => r.getD s 0).map V.int)))
        ⟨o7, o8, o9, rfl, s46, SameBut.refl _ _, hCg6⟩ (fun c σ H' _ ⟨_, _, _, _, _, sb, _⟩ => sq (sb _ _ LCg hLL)) ?_ ?_⟩
      · rintro c x σ H7a H7 hc ⟨o7, o8, o9, rfl, s7, sb7, hC7⟩ ⟨rfl, hx7⟩
        have hc2 : c < 2 ^ m.ns.length := by rw [← ll]; exact hc
        have lc : (letN m.ns.length)[c]? = some (bitsI m.ns.length c) := by
          rw [let_bits _ nl, List.getElem?_map, List.getElem?_range hc2]
          rfl
        obtain ⟨q1, a1, a2, a3⟩ := la.2 c _ lc
        rw [a1] at hx7
        cases hx7
        have qCg : q1 ≠ Cg := (ne_of_none hCg a2).symm
        have hq1 := sb7 _ _ qCg a3
        have hD7 := s7 _ _ (s4 _ _ hW2)
        have hSo7 := s7 _ _ (s4 _ _ hSo)
        walk_at "rd"
        refine ⟨⟨_, sq hD7⟩, for_it walk_list (fun j σ H' => ∃ (o8 : Option V), σ = [some (.ref p), some (.ref d), some (.ref D), some (.ref So), some (.ref R), some (.ref q'), some (.ref Cg), some (.ref q1), o8, some (natV (num ((fs.take j).map fun z => decide (bitAt ys.length c (idx ys z) = 1))))] ∧ H' = H7) ⟨o8, rfl, rfl⟩ (fun j σ H' _ ⟨_, _, e⟩ => e ▸ sq hD7) ?_ ?_⟩
        · rintro j x σ H8a H8 hj ⟨o8, rfl, rfl⟩ ⟨rfl, hx8⟩
          obtain ⟨z, hz, rfl⟩ := at_map hx8
          have zy : z ∈ ys := pm.mem_iff.mpr (List.mem_of_getElem? hz)
          obtain ⟨i1, i2, i3⟩ := idx_at zy
          have e1 : num ((fs.take (j + 1)).map fun z => decide (bitAt ys.length c (idx ys z) = 1)) = 2 * num ((fs.take j).map fun z => decide (bitAt ys.length c (idx ys z) = 1)) + (if decide (bitAt ys.length c (idx ys z) = 1) then 1 else 0) := by
            rw [List.take_add_one, hz, List.map_append]
            exact num_snoc _ _
          have bl : bitAt ys.length c (idx ys z) < 2 := Nat.mod_lt _ (by decide)
          have e3 : (if decide (bitAt ys.length c (idx ys z) = 1) then 1 else 0) = bitAt ys.length c (idx ys z) := by
            by_cases b1 : bitAt ys.length c (idx ys z) = 1
            · rw [decide_eq_true b1, b1]
              rfl
            · rw [decide_eq_false b1]
              have b0 : bitAt ys.length c (idx ys z) = 0 := by omega
              rw [b0]
              rfl
          rw [e3] at e1
          walk_at "rd"
          refine ⟨.inl ⟨by decide, by decide⟩, ?_⟩
          walk_at "rd"
          refine ⟨.inl ⟨rfl, _, sq hSo7⟩, ?_⟩
          walk_at "rd"
          refine ⟨So, ys.map V.str, .str z, idx ys z, .str z, rfl, rfl, sq hSo7, rfl, Bx.flat_all _, by rw [List.getElem?_map, i2]; rfl, by show (z == z) = true; exact beq_self_eq_true z, fun m' z' hm' hz' => ?_, ?_⟩
          · obtain ⟨y, hy, rfl⟩ := at_map hz'
            show (y == z) = false
            exact beq_false_of_ne fun e => i3 m' hm' (by rw [hy, e])
          refine ⟨_, _, _, _, rfl, rfl, sq hq1, atI_nat (j := idx ys z) (v := .int ((bitAt ys.length c (idx ys z) : Nat) : Int)) ?_, ?_⟩
          · unfold bitsI
            rw [List.getElem?_map, List.getElem?_map, List.getElem?_range (by omega), yl]
            rfl
          walk_at "rd"
          refine ⟨some (.str z), ?_, rfl⟩
          rw [e1]
          rfl
        · rintro σ H8 ⟨o8, rfl, rfl⟩
          rw [List.length_map, List.take_length]
          have sn : num (fs.map fun z => decide (bitAt ys.length c (idx ys z) = 1)) = srcN fs ys c := rfl
          rw [sn]
          have sl : srcN fs ys c < r.length := by
            rw [rok.1, ← fl]
            exact srcN_lt _ _ _
          walk_at "rd"
          refine ⟨.inl ⟨rfl, _, sq hC7⟩, ?_⟩
          walk_at "rd"
          refine ⟨_, _, _, _, rfl, rfl, Bx.Same.tup (s4.trans s7) hq, atI_nat (j := srcN fs ys c) (v := .int (r.getD (srcN fs ys c) 0)) (by rw [List.getElem?_map, List.getElem?_eq_getElem sl, List.getD_eq_getElem?_getD, List.getElem?_eq_getElem sl]; rfl), ?_⟩
          have srl : (srcs fs ys).length = 2 ^ m.ns.length := by
            unfold srcs
            rw [List.length_map, List.length_range, yl]
          have sat : (srcs fs ys)[c]? = some (srcN fs ys c) := by
            unfold srcs
            rw [List.getElem?_map, List.getElem?_range (by rw [yl]; exact hc2)]
            rfl
          refine ⟨Cg, _, _, rfl, rfl, hC7, szl (by rw [List.length_map, List.length_map]; exact Nat.lt_of_le_of_lt (List.length_take_le' c _) (by omega)), ?_⟩
          refine ⟨_, _, _, rfl, same_at nCg s7, sb7.trans SameBut.upd, ?_⟩
          rw [upd_same, List.take_add_one, sat, List.map_append, List.map_append]
          rfl
      · rintro σ H7 ⟨o7, o8, o9, rfl, s7, sb7, hC7⟩
        have srl : (srcs fs ys).length = lus.length := by
          unfold srcs
          rw [List.length_map, List.length_range, yl, ll]
        rw [← srl, List.take_length] at hC7
        have hR7 := s7 _ _ hR4
        have CR : Cg ≠ R := fun e => by
          rw [e, hR4] at nCg
          cases nCg
        walk_at "rd"
        refine ⟨.inl ⟨rfl, _, sq hR7⟩, ?_⟩
        walk_at "rd"
        have i100 : i < m.rows.length := by rw [← xl]; exact hi
        refine ⟨R, _, _, rfl, rfl, hR7, szl (by omega), ?_⟩
        refine ⟨_, _, _, _, _, us ++ [.ref Cg], rfl, same_at nR (s4.trans s7), upd_same, ?_, by rw [List.length_append, ul]; rfl⟩
        rw [mn_upd (by simp), List.take_add_one, hr0, List.map_append, List.map_append]
        refine da_app (dpAll_same (mn_all s7) hda) (da_one (dp_rowL (r := perm fs ys r) (sq ?_)))
        rw [mn_out (by simp [CR])]
        exact hC7
    · rintro σ H4 ⟨o5, o6, o7, o8, o9, us, rfl, s4, hR4, hda, ul⟩
      rw [xl, List.take_length] at hda
      have hda2 := dpAll_same mn_same hda
      have hSo4 := s4 _ _ hSo
      walk_at "rd"
      refine ⟨So, _, rfl, .inl ⟨sq hSo4, fun a na => ?_⟩⟩
      have s5 := same_new na (o := .tup (ys.map V.str))
      have ha := upd_same (H := H4) (a := a) (o := .tup (ys.map V.str))
      generalize upd H4 a (.tup (ys.map V.str)) = H5 at s5 ha ⊢
      have M5 := M2.same (s4.trans s5)
      walk_at "rd"
      refine ⟨_, _, _, _, rfl, rfl, M5.t, atI_nat (j := 2) rfl, ?_⟩
      refine ⟨sz (by show 3 ≤ 100000; decide), fun T nT => ?_⟩
      have s6 := same_new nT (o := .tup [.ref a, .ref R, .ref pe])
      have s56 := s5.trans s6
      exact q T a R pe ys us _ (s02.trans (s4.trans s56)) pm st (sqt upd_same) (sqt (s6 _ _ ha)) (s56 _ _ hR4) (dpAll_same s56 hda2) (Bx.Same.tup s6 M5.e)
end
end K36
namespace K36
local macro_rules | `(tactic| walk_at "rd") => `(tactic| repeat (first | refine ⟨rfl, ?_⟩ | refine ⟨_, rfl, ?_⟩ | refine ⟨_, _, rfl, rfl, ?_⟩ | refine ⟨⟨_, rfl⟩, ?_⟩))
open PySem PySem.Spec PyProof.Rows L2 Bx TL Dx Zx Ow Sup NdefX Px
structure TbOk (t : Tb) : Prop where
  key : (t.map (·.1)).Sublist POOL
  inj : (POOL.map (rn t)).Nodup
  ok : ∀ z ∈ POOL, PyData.strOk (rn t z) = true
theorem pool_asc1 : Asc POOL := (List.pairwise_cons.mp pool_asc).2
theorem perm_asc2 {ys zs : List Str} (h1 : sortedS ys = true) (n1 : ys.Nodup) (as : Asc zs) (m : ∀ x, x ∈ ys ↔ x ∈ zs) : ys = zs := asc_eq (asc_of h1 n1) as m
section
variable {P : Program} {w : World} {K : PySem.W.Frag} {mg : Str → Option Value} {base : Heap}
@[irreducible] def spSM (K : PySem.W.Frag) : Sp := fun vs H Q _ => ∃ (A T a b pe : Addr) (m : Mc) (us : List V), vs = [.ref A, .ref T] ∧ Dp K H (.ref A) (mcD m) ∧ SqT K H T [.ref a, .ref b, .ref pe] ∧ SqT K H a (m.ns.map V.str) ∧ SqL K H b us ∧ DpAll K H us (m.rows.map rowL) ∧ SqT K H pe (m.ends.map V.int) ∧ (∀ z ∈ m.ns, PyData.strOk z = true) ∧ m.rows.length ≤ 100 ∧ m.ends.length ≤ 100 ∧ (∀ r ∈ m.rows, r.length ≤ 100) ∧ Q (.bl true) H
set_option maxHeartbeats 2000000 in
theorem ok_same_machine {f : Addr} {fd : FuncData} (F : Fun K "_law_same_machine" "_law_same_machine" s__law_same_machine f fd) (m_isinstance : mg "isinstance" = none) (m_tuple : mg "tuple" = none) (m_len : mg "len" = none) (m_range : mg "range" = none) (C__law_same_row : Cal P w K mg base "_law_same_row" 2 ["_law_actual", "_law_expected"] (spSameRow K)) : FnOk P w K mg base CX0 3 f fd ["_law_actual", "_law_expected"] (spSM K) := by
  refine F.ok sc__law_same_machine (fun vs H Q E h => ?_) (fun cdv A outer s H vs Q E hr h => ?_)
  · unfold spSM at h
    obtain ⟨A, T, a, b, pe, m, us, rfl, _⟩ := h
    rfl
  · unfold spSM at h
    obtain ⟨Aa, T, a, b, pe, m, us, rfl, hA, hT, ha, hb, dus, hpe, ok, rl, el, rr, q⟩ := h
    obtain ⟨p', pn, pm, pe', xs, ep, M⟩ := mc_dp hA
    cases ep
    have xl : xs.length = m.rows.length := by rw [da_len M.d, List.length_map]
    have ul : us.length = m.rows.length := by rw [da_len dus, List.length_map]
    refine ⟨_, (pss_cons (ps_if (PW.pt (pw_or (pt_not (pt_val (pe_callB (id := "isinstance") call_isi (by rfl) m_isinstance (by decide +kernel) (pa_cons (pv 0) (pa_cons (pe_bltn (v := .ty "tuple") (by rfl) m_tuple (by decide +kernel) rfl) pa_nil))))) (pw_or (pt_cmpR op_ne (pe_callB call_len_seq (by rfl) m_len PySem.boot_len (pa_cons (pv 0) pa_nil)) pe_int (nomark _)) (pw_or1 (pt_cmpR (op_neD hr.units) (pe_ix ix_tup (pv 0) pe_int (fun _ _ => rfl)) (pe_ix ix_tup (pv 1) pe_int (fun _ _ => rfl)) (nomark _))))))
      (pss_one (ps_ret pe_bl))
      pss_nil)
    (pss_cons (ps_if (PW.pt (pw_or (pt_not (pt_val (pe_callB (id := "isinstance") call_isi (by rfl) m_isinstance (by decide +kernel) (pa_cons (pe_ix ix_tup (pv 0) pe_int (fun _ _ => rfl)) (pa_cons (pe_bltn (v := .ty "tuple") (by rfl) m_tuple (by decide +kernel) rfl) pa_nil))))) (pw_or1 (pt_cmpR op_ne (pe_callB call_len_seq (by rfl) m_len PySem.boot_len (pa_cons (pe_ix ix_tup (pv 0) pe_int (fun _ _ => rfl)) pa_nil)) (pe_callB call_len_seq (by rfl) m_len PySem.boot_len (pa_cons (pe_ix ix_tup (pv 1) pe_int (fun _ _ => rfl)) pa_nil)) (nomark _)))))
      (pss_one (ps_ret pe_bl))
      pss_nil)
    (pss_cons (ps_for PassesOwn.never rfl (pi_range1 (by rfl) m_range (pa_cons (pe_callB call_len_seq (by rfl) m_len PySem.boot_len (pa_cons (pe_ix ix_tup (pv 1) pe_int (fun _ _ => rfl)) pa_nil)) pa_nil)) (pg_name (i := 2) sc__law_same_machine.nd rfl (Or.inl rfl))
      (pss_one (ps_if (pt_not (pt_val (pe_cal C__law_same_row (hr.mono (by decide)) (pa_cons (pe_ix ix_tup (pe_ix ix_tup (pv 0) pe_int (fun _ _ => rfl)) (pv 2) (fun _ _ => rfl)) (pa_cons (pe_ix ix_list (pe_ix ix_tup (pv 1) pe_int (fun _ _ => rfl)) (pv 2) (fun _ _ => rfl)) pa_nil)))))
      (pss_one (ps_ret pe_bl))
      pss_nil)))
    (pss_one (ps_ret (pe_cal C__law_same_row (hr.mono (by decide)) (pa_cons (pe_ix ix_tup (pv 0) pe_int (fun _ _ => rfl)) (pa_cons (pe_ix ix_tup (pv 1) pe_int (fun _ _ => rfl)) pa_nil)))))))), ?_⟩
    walk_at "rd"
    refine ⟨_, _, _, _, true, rfl, .ty "tuple", ty_tup M.t, kit_ty (by decide +kernel), ?_⟩
    walk_at "rd"
    refine ⟨Aa, _, rfl, .inr M.t, ?_⟩
    walk_at "rd"
    refine ⟨_, _, _, _, rfl, rfl, M.t, atI_nat (j := 0) rfl, ?_⟩
    walk_at "rd"
    refine ⟨_, _, _, _, rfl, rfl, hT, atI_nat (j := 0) rfl, ?_⟩
    have ln : Lay 1 (.tuple (m.ns.map PyData.str)) := lay_tuple (lays_strs ok)
    refine ⟨_, _, names_dp M.n, names_dp ha, shape ln (by decide), shape ln (by decide), ?_⟩
    rw [eq_refl ln]
    walk_at "rd"
    refine ⟨_, _, _, _, rfl, rfl, M.t, atI_nat (j := 1) rfl, ?_⟩
    refine ⟨_, _, _, _, true, rfl, .ty "tuple", ty_tup M.r, kit_ty (by decide +kernel), ?_⟩
    walk_at "rd"
    refine ⟨_, _, _, _, rfl, rfl, M.t, atI_nat (j := 1) rfl, ?_⟩
    refine ⟨pm, _, rfl, .inr M.r, ?_⟩
    walk_at "rd"
    refine ⟨_, _, _, _, rfl, rfl, hT, atI_nat (j := 1) rfl, ?_⟩
    refine ⟨b, _, rfl, .inl hb, ?_⟩
    walk_at "rd"
    rw [decide_eq_true (show V.int (xs.length : Nat) = V.int (us.length : Nat) by rw [xl, ul])]
    walk_at "rd"
    refine ⟨_, _, _, _, rfl, rfl, hT, atI_nat (j := 1) rfl, ?_⟩
    refine ⟨b, _, rfl, .inl hb, ?_⟩
    walk_at "rd"
    refine ⟨by omega, by omega, for_it walk_range (fun i σ H' => ∃ o2 : Option V, σ = [some (.ref Aa), some (.ref T), o2] ∧ H' = H) ⟨none, rfl, rfl⟩ (fun _ _ _ _ _ => trivial) ?_ ?_⟩
    · rintro i x σ H2a H2 hi ⟨o2, rfl, rfl⟩ ⟨rfl, rfl⟩
      have hi2 : i < m.rows.length := by omega
      have e1 := List.getElem?_eq_getElem (show i < xs.length by omega)
      have e2 := List.getElem?_eq_getElem (show i < us.length by omega)
      obtain ⟨r, hr0, dr⟩ := da_atM M.d e1
      obtain ⟨r2, hr2, dr2⟩ := da_atM dus e2
      rw [hr0] at hr2
      cases hr2
      obtain ⟨q1, eq1, hq1⟩ := row_dp dr
      obtain ⟨q2, eq2, hq2⟩ := rowL_dp dr2
      rw [eq1] at e1
      rw [eq2] at e2
      walk_at "rd"
      refine ⟨_, _, _, _, rfl, rfl, M.t, atI_nat (j := 1) rfl, ?_⟩
      walk_at "rd"
      refine ⟨_, _, _, _, rfl, rfl, M.r, by rw [Int.zero_add]; exact atI_nat e1, ?_⟩
      walk_at "rd"
      refine ⟨_, _, _, _, rfl, rfl, hT, atI_nat (j := 1) rfl, ?_⟩
      walk_at "rd"
      refine ⟨_, _, _, _, rfl, rfl, hb, by rw [Int.zero_add]; exact atI_nat e2, ?_⟩
      show spSameRow K _ _ _ _
      unfold spSameRow
      refine ⟨q1, q2, r, rfl, hq1, .inl hq2, by have := rr r (List.mem_of_getElem? hr0); omega, ?_⟩
      walk_at "rd"
      exact rfl
    · rintro σ H2 ⟨o2, rfl, rfl⟩
      walk_at "rd"
      refine ⟨_, _, _, _, rfl, rfl, M.t, atI_nat (j := 2) rfl, ?_⟩
      walk_at "rd"
      refine ⟨_, _, _, _, rfl, rfl, hT, atI_nat (j := 2) rfl, ?_⟩
      show spSameRow K _ _ _ _
      unfold spSameRow
      exact ⟨pe', pe, m.ends, rfl, M.e, .inr hpe, by omega, q⟩
@[irreducible] def spRR (K : PySem.W.Frag) : Sp := fun vs H Q _ => ∃ (p1 p2 d : Addr) (m1 m2 : Mc) (t : Tb), vs = [.ref p1, .ref p2, .ref d] ∧ Dp K H (.ref p1) (mcD m1) ∧ Dp K H (.ref p2) (mcD m2) ∧ McOk m1 ∧ McOk m2 ∧ m1.ns.Sublist POOL ∧ m2.ns.Sublist POOL ∧ m1.rows.length ≤ 100 ∧ m2.rows.length ≤ 100 ∧ H d = some (.dK (tbV t)) ∧ TbOk t ∧ ∀ H', Same H H' → Q (.bl true) H'
set_option maxHeartbeats 4000000 in
theorem ok_rename_right {C : Addr} {f : Addr} {fd : FuncData} (F : Fun K "_law_rename_right" "_law_rename_right" s__law_rename_right f fd) (m_sorted : mg "sorted" = none) (m_isinstance : mg "isinstance" = none) (m_tuple : mg "tuple" = none) (m_len : mg "len" = none) (B_Words : Mk0.Bare K mg "Words" C)
    (M_rename : MthC P w K mg base C "rename" 5 ["self", "theory", "table"] (spRen K)) (C__law_pool : Cal P w K mg base "_law_pool" 1 [] (spPool K)) (C__law_same_machine : Cal P w K mg base "_law_same_machine" 3 ["_law_actual", "_law_expected"] (spSM K)) (C__law_renamed : Cal P w K mg base "_law_renamed" 2 ["_law_machine_here", "_law_table_here"] (spLRen K)) : FnOk P w K mg base CX0 6 f fd ["_law_machine_here", "_law_other", "_law_table_here"] (spRR K) := by
  refine F.ok sc__law_rename_right (fun vs H Q E h => ?_) (fun cdv A outer s H vs Q E hr h => ?_)
  · unfold spRR at h
    obtain ⟨p1, p2, d, m1, m2, t, rfl, _⟩ := h
    rfl
  · unfold spRR at h
    obtain ⟨p1, p2, d, m1, m2, t, rfl, h1, h2, mo1, mo2, sb1, sb2, rl1, rl2, hd, to, q⟩ := h
    have hu := hu_of hr
    have ksub := to.key
    have kas : Asc (t.map (·.1)) := List.Pairwise.sublist ksub pool_asc1
    have kl : (t.map (·.1)).length ≤ 4 := ksub.length_le
    have kv : ∀ z ∈ t.map (·.1), valV (tbV t) (.inr z) = some (.str (rn t z)) := fun z hz => has_tb hz
    refine ⟨_, (pss_cons (ps_setLc (i := 3) (own := [("_law_name", 5)]) (tt := tYes) rfl sc__law_rename_right.nd rfl rfl (sw_true rfl rfl rfl (by decide +kernel)) (pi_list (pe_callB (id := "sorted") (call_sortedD rfl) (by rfl) m_sorted (by decide +kernel) (pa_cons (pv 2) pa_nil))) (blkOk_by (N := n__law_rename_right) (sc := defScope s__law_rename_right) (by decide +kernel)) (fun _ _ _ _ _ => pg_name (i := 5) sc__law_rename_right.nd rfl (Or.inl rfl)) (fun _ _ _ _ _ => pts_nil) (fun _ _ _ _ _ => (pe_tup (pa_cons (pv 5) (pa_cons (pe_dget hu (pv 2) (pv 5) (fun _ _ => rfl)) pa_nil)))))
    (pss_cons (ps_set (i := 4) sc__law_rename_right.nd rfl (Or.inl rfl) (pe_mth M_rename (hr.mono (by decide)) (Mk0.pe_bare B_Words) (pa_cons (pe_tup (pa_cons (pe_cal0 C__law_pool (hr.mono (by decide))) (pa_cons (pe_tup (pa_cons (pv 0) (pa_cons (pv 1) pa_nil))) pa_nil))) (pa_cons (pv 2) pa_nil)) (ht := mcall_of (abase_call (by decide +kernel)) (fun _ => rfl))))
    (pss_cons (ps_if (pt_cmpR (op_neD hr.units) (pe_lc (own := [("_law_name", 5)]) (tt := tYes) rfl sc__law_rename_right.nd (pi_list (pe_callB (id := "sorted") (call_sortedD rfl) (by rfl) m_sorted (by decide +kernel) (pa_cons (pv 2) pa_nil))) (blkOk_by (N := n__law_rename_right) (sc := defScope s__law_rename_right) (by decide +kernel)) (fun _ _ _ _ _ => pg_name (i := 5) sc__law_rename_right.nd rfl (Or.inl rfl)) (fun _ _ _ _ _ => pts_nil) (fun _ _ _ _ _ => (pe_tup (pa_cons (pv 5) (pa_cons (pe_dget hu (pv 2) (pv 5) (fun _ _ => rfl)) pa_nil))))) (pv 3) (nomark _))
      (pss_one (ps_ret pe_bl))
      pss_nil)
    (pss_cons (ps_if (PW.pt (pw_or (pt_not (pt_val (pe_callB (id := "isinstance") call_isi (by rfl) m_isinstance (by decide +kernel) (pa_cons (pv 4) (pa_cons (pe_bltn (v := .ty "tuple") (by rfl) m_tuple (by decide +kernel) rfl) pa_nil))))) (pw_or1 (pt_cmpR op_ne (pe_callB call_len_seq (by rfl) m_len PySem.boot_len (pa_cons (pv 4) pa_nil)) pe_int (nomark _)))))
      (pss_one (ps_ret pe_bl))
      pss_nil)
    (pss_cons (ps_if (pt_cmpR (op_neD hr.units) (pe_ix ix_tup (pv 4) pe_int (fun _ _ => rfl)) (pe_callTy (T := "tuple") call_tuple_of (by rfl) m_tuple (by decide +kernel) (pa_cons (pe_callB (id := "sorted") cr_sortedS (by rfl) m_sorted (by decide +kernel) (pa_cons (pe_lc (own := [("_law_name", 5)]) (tt := tYes) rfl sc__law_rename_right.nd (pi_tup (pe_cal0 C__law_pool (hr.mono (by decide)))) (blkOk_by (N := n__law_rename_right) (sc := defScope s__law_rename_right) (by decide +kernel)) (fun _ _ _ _ _ => pg_name (i := 5) sc__law_rename_right.nd rfl (Or.inl rfl)) (fun _ _ _ _ _ => pts_nil) (fun _ _ _ _ _ => (pe_dget2 hu (pv 2) (pv 5) (pv 5) ⟨rfl, rfl, rfl, rfl⟩))) pa_nil)) pa_nil)) (nomark _))
      (pss_one (ps_ret pe_bl))
      pss_nil)
    (pss_cons (ps_if (PW.pt (pw_or (pt_not (pt_val (pe_callB (id := "isinstance") call_isi (by rfl) m_isinstance (by decide +kernel) (pa_cons (pe_ix ix_tup (pv 4) pe_int (fun _ _ => rfl)) (pa_cons (pe_bltn (v := .ty "tuple") (by rfl) m_tuple (by decide +kernel) rfl) pa_nil))))) (pw_or1 (pt_cmpR op_ne (pe_callB call_len_seq (by rfl) m_len PySem.boot_len (pa_cons (pe_ix ix_tup (pv 4) pe_int (fun _ _ => rfl)) pa_nil)) pe_int (nomark _)))))
      (pss_one (ps_ret pe_bl))
      pss_nil)
    (pss_cons (ps_if (pt_not (pt_val (pe_cal C__law_same_machine (hr.mono (by decide)) (pa_cons (pe_ix ix_tup (pe_ix ix_tup (pv 4) pe_int (fun _ _ => rfl)) pe_int (fun _ _ => rfl)) (pa_cons (pe_cal C__law_renamed (hr.mono (by decide)) (pa_cons (pv 0) (pa_cons (pv 2) pa_nil))) pa_nil)))))
      (pss_one (ps_ret pe_bl))
      pss_nil)
    (pss_one (ps_ret (pe_cal C__law_same_machine (hr.mono (by decide)) (pa_cons (pe_ix ix_tup (pe_ix ix_tup (pv 4) pe_int (fun _ _ => rfl)) pe_int (fun _ _ => rfl)) (pa_cons (pe_cal C__law_renamed (hr.mono (by decide)) (pa_cons (pv 1) (pa_cons (pv 2) pa_nil))) pa_nil)))))))))))), ?_⟩
    dsimp only [gName]
    refine set_gi (te := tLc _ _ _ _ _) (i := 3) (fun v H' => ∃ (D : Addr) (us : List V), v = .ref D ∧ Same H H' ∧ H' D = some (.lst us) ∧ DpAll K H' us (prs (fun z => PyData.str (rn t z)) (t.map (·.1)))) (fun Z hZ => ?_) (fun v H2 => ?_)
    · refine pairs_lc (a := 2) (g := fun z => .str (rn t z)) (f := fun z => .str (rn t z)) (ks := t.map (·.1)) (by show 5 < 6; decide) (by decide) rfl hd (by omega) kv (fun z H' => .str _) (fun z => rfl) (fun R hR => ?_) (fun D H' us ys s h1 h0 h2 pm st => ?_)
      · walk_at "rd"
        exact ⟨d, _, t.map (·.1), rfl, .inl hd, keys_tb t, by omega, fun ys p pm st np => hR p _ ys (same_new np) upd_same pm st⟩
      · have e := perm_asc pm st (asc_nodup kas) kas (fun _ => Iff.rfl)
        rw [e] at h2
        exact hZ _ _ ⟨D, us, rfl, s, h1, h2⟩
    rintro ⟨D, us, rfl, s2, hD, hda⟩
    walk_at "rd"
    refine fun k dk nk ndk ne => ?_
    obtain ⟨u1, hk1⟩ := bare_new (C := C) nk ndk ne
    generalize upd (upd H2 dk (.own k)) k (.ins C dk []) = H3 at u1 hk1 ⊢
    refine ⟨k, dk, [], rfl, hk1, rfl, ?_⟩
    walk_at "rd"
    show spPool K _ _ _ _
    unfold spPool
    refine ⟨rfl, fun pl npl => ?_⟩
    have s4 := same_new npl (o := .tup (POOL.map V.str))
    have hpl := upd_same (H := H3) (a := pl) (o := .tup (POOL.map V.str))
    generalize upd H3 pl (.tup (POOL.map V.str)) = H4 at s4 hpl ⊢
    walk_at "rd"
    refine ⟨sz (by show 2 ≤ 100000; decide), fun pms npm => ?_⟩
    have s5 := same_new npm (o := .tup [.ref p1, .ref p2])
    have hpm := upd_same (H := H4) (a := pms) (o := .tup [.ref p1, .ref p2])
    generalize upd H4 pms (.tup [.ref p1, .ref p2]) = H5 at s5 hpm ⊢
    refine ⟨sz (by show 2 ≤ 100000; decide), fun T nT => ?_⟩
    have s6 := same_new nT (o := .tup [.ref pl, .ref pms])
    have hT := upd_same (H := H5) (a := T) (o := .tup [.ref pl, .ref pms])
    generalize upd H5 T (.tup [.ref pl, .ref pms]) = H6 at s6 hT ⊢
    have s06 := s2.trans (u1.trans (s4.trans (s5.trans s6)))
    have s26 := u1.trans (s4.trans (s5.trans s6))
    have mr : ∀ m ∈ [m1, m2], McR t m := fun m hm => by
      rcases List.mem_cons.mp hm with e | hm
      · rw [e]
        exact ⟨mo1, rl1, List.Pairwise.sublist (sb1.map (rn t)) to.inj⟩
      · rw [List.mem_singleton.mp hm]
        exact ⟨mo2, rl2, List.Pairwise.sublist (sb2.map (rn t)) to.inj⟩
    walk_at "rd"
    show spRen K _ _ _ _
    unfold spRen
    refine ⟨k, T, pl, pms, d, [.ref p1, .ref p2], [m1, m2], t, rfl, sqt hT, Bx.Same.tup (s5.trans s6) (sqt hpl), Bx.Same.tup s6 (sqt hpm), .cons (dp_same s06 h1) (da_one (dp_same s06 h2)), by show 2 ≤ 10; decide, mr, s06 _ _ hd, fun R ap ar ys vs ms' H7 s7 hR hap st ynd ymem har dvs ml ren => ?_⟩
    have s07 := s06.trans s7
    have hD7 := (s26.trans s7) _ _ hD
    have hda7 := dpAll_same (s26.trans s7) hda
    have hd7 := s07 _ _ hd
    match ms', ml with
    | [w1, w2], _ =>
    obtain ⟨y1, as1, mem1, rfl⟩ := ren 0 m1 w1 rfl rfl
    obtain ⟨y2, as2, mem2, rfl⟩ := ren 1 m2 w2 rfl rfl
    dsimp only [gName, tSeq, tIfS, tTest, tOp]
    show tLc _ _ _ _ _ _ _ _
    refine pairs_lc (a := 2) (g := fun z => .str (rn t z)) (f := fun z => .str (rn t z)) (ks := t.map (·.1)) (by show 5 < 6; decide) (by decide) rfl hd7 (by omega) kv (fun z H' => .str _) (fun z => rfl) (fun R hR => ?_) (fun D2 H8 us2 zs s8 g1 g0 g2 pm2 st2 => ?_)
    · walk_at "rd"
      exact ⟨d, _, t.map (·.1), rfl, .inl hd7, keys_tb t, by omega, fun ys p pm st np => hR p _ ys (same_new np) upd_same pm st⟩
    have ez := perm_asc pm2 st2 (asc_nodup kas) kas (fun _ => Iff.rfl)
    rw [ez] at g2
    have ly : Lay 2 (.list (prs (fun z => PyData.str (rn t z)) (t.map (·.1)))) := lay_list (lays_of fun dd hdd => by
      obtain ⟨z, hz, rfl⟩ := List.mem_map.mp hdd
      have zp := ksub.subset hz
      exact lay_tuple (lays_cons (lay_str (pool_ok z zp)) (lays_cons (lay_str (to.ok z zp)) lays_nil)))
    have s08 := s07.trans s8
    have hR8 := Bx.Same.tup s8 hR
    have har8 := Bx.Same.tup s8 har
    have hap8 := Bx.Same.tup s8 hap
    have dvs8 := dpAll_same s8 dvs
    have s28 := s26.trans (s7.trans s8)
    walk_at "rd"
    refine ⟨_, _, .lst (sq g1) g2, .lst (sq (s28 _ _ hD)) (dpAll_same s28 hda), shape ly (by decide), shape ly (by decide), ?_⟩
    rw [eq_refl ly]
    walk_at "rd"
    refine ⟨_, _, _, _, true, rfl, .ty "tuple", ty_tup hR8, kit_ty (by decide +kernel), ?_⟩
    walk_at "rd"
    refine ⟨R, _, rfl, .inr hR8, ?_⟩
    walk_at "rd"
    refine ⟨_, _, _, _, rfl, rfl, hR8, atI_nat (j := 0) rfl, ?_⟩
    walk_at "rd"
    refine fun pl2 npl2 => ?_
    have s9 := same_new npl2 (o := .tup (POOL.map V.str))
    have hpl2 := upd_same (H := H8) (a := pl2) (o := .tup (POOL.map V.str))
    generalize upd H8 pl2 (.tup (POOL.map V.str)) = H9 at s9 hpl2 ⊢
    have s09 := s08.trans s9
    have hd9 := s09 _ _ hd
    refine ⟨pl2, rfl, ⟨_, sqt hpl2⟩, fun D3 hD3 => ?_⟩
    have hdD : d ≠ D3 := ne_of_none hd9 hD3
    refine lc_it walk_tup (fun i H' => H' = upd H9 D3 (.lst (((POOL.take i).map (rn t)).map V.str))) rfl (fun i H' _ e => e ▸ Bx.Same.tup (same_new hD3) (sqt hpl2)) ?_ ?_
    · rintro i v H2 H3 hi rfl ⟨rfl, hx⟩
      obtain ⟨z, hz, rfl⟩ := at_map hx
      refine ⟨rfl, ?_⟩
      walk_at "rd"
      have hd2 : (upd H9 D3 (.lst (((POOL.take i).map (rn t)).map V.str))) d = some (.dK (tbV t)) := by
        rw [upd_ne hdD]
        exact hd9
      refine ⟨.inl ⟨_, .inl hd2⟩, ?_⟩
      walk_at "rd"
      refine ⟨_, DGet.k (k := .inr z) hd2, ?_⟩
      rw [val_tb]
      refine ⟨_, upd_same, ?_, ?_⟩
      · rw [List.length_map, List.length_map]
        exact szl (Nat.lt_of_le_of_lt (List.length_take_le' i _) (by decide))
      · rw [upd_upd, List.take_add_one, hz, List.map_append, List.map_append]
        rfl
    rintro H10 rfl
    rw [List.length_map, List.take_length]
    have s10 := same_new hD3 (o := .lst ((POOL.map (rn t)).map V.str))
    have hD10 := upd_same (H := H9) (a := D3) (o := .lst ((POOL.map (rn t)).map V.str))
    generalize upd H9 D3 (.lst ((POOL.map (rn t)).map V.str)) = H10 at s10 hD10 ⊢
    walk_at "rd"
    refine ⟨D3, POOL.map (rn t), rfl, sq hD10, by rw [List.length_map]; decide, fun zs2 S2 pm3 st3 nS2 => ?_⟩
    have ezs : zs2 = ys := perm_asc2 st3 (pm3.nodup_iff.mpr to.inj) (asc_of st ynd) fun x => pm3.mem_iff.trans (ymem x).symm
    subst ezs
    have s11 := same_new nS2 (o := .lst (zs2.map V.str))
    have hS2 := upd_same (H := H10) (a := S2) (o := .lst (zs2.map V.str))
    generalize upd H10 S2 (.lst (zs2.map V.str)) = H11 at s11 hS2 ⊢
    refine ⟨S2, _, rfl, .inl ⟨sq hS2, fun t2 nt2 => ?_⟩⟩
    have s12 := same_new nt2 (o := .tup (zs2.map V.str))
    have ht2 := upd_same (H := H11) (a := t2) (o := .tup (zs2.map V.str))
    generalize upd H11 t2 (.tup (zs2.map V.str)) = H12 at s12 ht2 ⊢
    have s812 := s9.trans (s10.trans (s11.trans s12))
    have s012 := s08.trans s812
    have hR12 := Bx.Same.tup s812 hR8
    have har12 := Bx.Same.tup s812 har8
    have dvs12 := dpAll_same s812 dvs8
    have ln : Lay 1 (.tuple (zs2.map PyData.str)) := lay_tuple (lays_strs fun z hz => by
      obtain ⟨y, hy, rfl⟩ := List.mem_map.mp ((ymem z).mp hz)
      exact to.ok y hy)
    refine ⟨_, _, names_dp (Bx.Same.tup s812 hap8), names_dp (sqt ht2), shape ln (by decide), shape ln (by decide), ?_⟩
    rw [eq_refl ln]
    walk_at "rd"
    refine ⟨_, _, _, _, rfl, rfl, hR12, atI_nat (j := 1) rfl, ?_⟩
    refine ⟨_, _, _, _, true, rfl, .ty "tuple", ty_tup har12, kit_ty (by decide +kernel), ?_⟩
    walk_at "rd"
    refine ⟨_, _, _, _, rfl, rfl, hR12, atI_nat (j := 1) rfl, ?_⟩
    refine ⟨ar, _, rfl, .inr har12, ?_⟩
    cases dvs12 with
    | @cons v1 _ vs1 _ dw10 dr1 =>
    cases dr1 with
    | @cons v2 _ vs2 _ dw20 dr2 =>
    cases dr2
    walk_at "rd"
    refine ⟨_, _, _, _, rfl, rfl, hR12, atI_nat (j := 1) rfl, ?_⟩
    walk_at "rd"
    refine ⟨_, _, _, _, rfl, rfl, har12, atI_nat (j := 0) rfl, ?_⟩
    walk_at "rd"
    show spLRen K _ _ _ _
    unfold spLRen
    refine ⟨p1, d, m1, t, rfl, dp_same s012 h1, s012 _ _ hd, mo1.nl, mo1.rows, rl1, fun X1 a1 b1 e1 z1 us1 G1 sg1 pm1 st1 hX ha hb dus he => ?_⟩
    have nd1 : (m1.ns.map (rn t)).Nodup := List.Pairwise.sublist (sb1.map (rn t)) to.inj
    have ey1 : z1 = y1 := perm_asc2 st1 (pm1.nodup_iff.mpr nd1) as1 fun x => pm1.mem_iff.trans (mem1 x).symm
    subst ey1
    have yl1 : z1.length ≤ 4 := by
      rw [pm1.length_eq, List.length_map]
      exact mo1.nl
    have dw1 := dp_same sg1 dw10
    obtain ⟨w1, _, _, _, _, ew1, _⟩ := mc_dp dw1
    walk_at "rd"
    show spSM K _ _ _ _
    unfold spSM
    rw [ew1] at dw1 ⊢
    refine ⟨w1, X1, a1, b1, e1, ⟨z1, m1.rows.map (perm (m1.ns.map (rn t)) z1), m1.ends⟩, us1, rfl, dw1, hX, ha, sq hb, dus, he, fun z hz => ?_, by rw [List.length_map]; exact rl1, by rw [show m1.ends.length = m1.rows.length from mo1.ends]; exact rl1, fun r hr => ?_, ?_⟩
    · obtain ⟨y, hy, rfl⟩ := List.mem_map.mp (pm1.mem_iff.mp hz)
      exact to.ok y (sb1.subset hy)
    · obtain ⟨r0, _, rfl⟩ := List.mem_map.mp hr
      rw [perm_len]
      exact Nat.le_trans (Nat.pow_le_pow_right (by decide) yl1) (by decide)
    have hRG1 := Bx.Same.tup sg1 hR12
    have harG1 := Bx.Same.tup sg1 har12
    have s0G1 := s012.trans sg1
    replace dw20 := dp_same sg1 dw20
    walk_at "rd"
    refine ⟨_, _, _, _, rfl, rfl, hRG1, atI_nat (j := 1) rfl, ?_⟩
    walk_at "rd"
    refine ⟨_, _, _, _, rfl, rfl, harG1, atI_nat (j := 1) rfl, ?_⟩
    walk_at "rd"
    refine ⟨p2, d, m2, t, rfl, dp_same s0G1 h2, s0G1 _ _ hd, mo2.nl, mo2.rows, rl2, fun X2 a2 b2 e2 z2 us2 G2 sg2 pm2 st2 hX ha hb dus he => ?_⟩
    have nd2 : (m2.ns.map (rn t)).Nodup := List.Pairwise.sublist (sb2.map (rn t)) to.inj
    have ey2 : z2 = y2 := perm_asc2 st2 (pm2.nodup_iff.mpr nd2) as2 fun x => pm2.mem_iff.trans (mem2 x).symm
    subst ey2
    have yl2 : z2.length ≤ 4 := by
      rw [pm2.length_eq, List.length_map]
      exact mo2.nl
    have dw2 := dp_same sg2 dw20
    obtain ⟨w2, _, _, _, _, ew2, _⟩ := mc_dp dw2
    walk_at "rd"
    rw [ew2] at dw2 ⊢
    refine ⟨w2, X2, a2, b2, e2, ⟨z2, m2.rows.map (perm (m2.ns.map (rn t)) z2), m2.ends⟩, us2, rfl, dw2, hX, ha, sq hb, dus, he, fun z hz => ?_, by rw [List.length_map]; exact rl2, by rw [show m2.ends.length = m2.rows.length from mo2.ends]; exact rl2, fun r hr => ?_, ?_⟩
    · obtain ⟨y, hy, rfl⟩ := List.mem_map.mp (pm2.mem_iff.mp hz)
      exact to.ok y (sb2.subset hy)
    · obtain ⟨r0, _, rfl⟩ := List.mem_map.mp hr
      rw [perm_len]
      exact Nat.le_trans (Nat.pow_le_pow_right (by decide) yl2) (by decide)
    exact q _ (s0G1.trans sg2)
end
end K36
namespace K36
local macro_rules | `(tactic| walk_at "rd") => `(tactic| repeat (first | refine ⟨rfl, ?_⟩ | refine ⟨_, rfl, ?_⟩ | refine ⟨_, _, rfl, rfl, ?_⟩ | refine ⟨⟨_, rfl⟩, ?_⟩))
open PySem PySem.Spec PyProof.Rows L2 Bx TL Dx Zx Ow Sup NdefX Px
/-! ### is_valid -/
theorem in01 (z : Int) : inV (.int z) [V.int 0, V.int 1] = decide (z = 0 ∨ z = 1) := by
  show ((0 : Int) == z || ((1 : Int) == z || false)) = _
  by_cases h0 : z = 0
  · subst h0
    rfl
  · by_cases h1 : z = 1
    · subst h1
      rfl
    · rw [decide_eq_false (fun h => h.elim h0 h1)]
      have a : ((0 : Int) == z) = false := by simpa using fun h : (0 : Int) = z => h0 h.symm
      have b : ((1 : Int) == z) = false := by simpa using fun h : (1 : Int) = z => h1 h.symm
      rw [a, b]
      rfl
theorem cr_allK {X : Cx} {K : PySem.W.Frag} (h : X.K = K) (hc : X.calm = true) : CallR X (.builtin "all") (rAll K) := by
  subst h
  exact cr_all hc
def okRow (n S : Nat) (r : List Int) : Bool := decide (r.length = 2 ^ n) && r.all fun x => decide (-1 ≤ x) && decide (x < (S : Int))
/-- what is_valid answers -/
def okM (ns : List Str) (m : Mc) : Bool := (m.ns.all fun z => decide (z ∈ ns)) && (ascB m.ns && (!decide (m.rows = []) && (decide (m.rows.length = m.ends.length) && ((m.ends.all fun e => decide (e = 0 ∨ e = 1)) && m.rows.all (okRow m.ns.length m.rows.length)))))
section
variable {P : Program} {w : World} {K : PySem.W.Frag} {mg : Str → Option Value} {base : Heap}
@[irreducible] def spKV (K : PySem.W.Frag) (C : Addr) : Sp := fun vs H Q _ => ∃ (a dx t p pn pm pe : Addr) (fs : List (Str × V)) (xs : List V) (ns : List Str) (m : Mc), vs = [.ref a, .ref t, .ref p] ∧ H a = some (.ins C dx fs) ∧ fs.lookup ("names_in" : Str) = none ∧ SqT K H t (ns.map V.str) ∧ MAt K H p pn pm pe xs m ∧ m.ns.length ≤ 1000 ∧
  ∀ H', Same H H' → Q (.bl (m.ns.all fun z => decide (z ∈ ns))) H'
theorem ok_kind_valid {C : Addr} {f : Addr} {fd : FuncData} (F : Fun K "is_valid" "Kind.is_valid" s_Kind_is_valid f fd) (m_all : mg "all" = none) (M_names_in : MthC P w K mg base C "names_in" 1 ["self", "constraint"] (spNI K)) : FnOk P w K mg base CX0 2 f fd ["self", "names", "constraint"] (spKV K C) := by
  refine F.ok sc_Kind_is_valid (fun vs H Q E h => ?_) (fun cdv A outer s H vs Q E hr h => ?_)
  · unfold spKV at h
    obtain ⟨a, dx, t, p, pn, pm, pe, fs, xs, ns, m, rfl, _⟩ := h
    rfl
  · unfold spKV at h
    obtain ⟨a, dx, t, p, pn, pm, pe, fs, xs, ns, m, rfl, ha, hn, ht, M, hl, q⟩ := h
    refine ⟨_, (pss_one (ps_ret (pe_callB (id := "all") (cr_all rfl) (by rfl) m_all (by decide +kernel) (pa_cons (pe_lc (own := [("name", 3)]) (tt := tYes) rfl sc_Kind_is_valid.nd (pi_tup (pe_mth M_names_in (hr.mono (by decide)) (pv 0) (pa_cons (pv 2) pa_nil))) (blkOk_by (N := n_Kind_is_valid) (sc := defScope s_Kind_is_valid) (by decide +kernel)) (fun _ _ _ _ _ => pg_name (i := 3) sc_Kind_is_valid.nd rfl (Or.inl rfl)) (fun _ _ _ _ _ => pts_nil) (fun _ _ _ _ _ => (pe_cmpR (op_in_seqK (K := K) rfl) (pv 3) (pv 1) (by rfl)))) pa_nil)))), ?_⟩
    walk_at "rd"
    refine ⟨a, dx, _, rfl, ha, hn, ?_⟩
    walk_at "rd"
    show spNI K _ _ _ _
    unfold spNI
    refine ⟨a, p, pn, pm, pe, xs, m, rfl, M, ?_⟩
    refine ⟨pn, rfl, ⟨_, M.n⟩, fun D hD => ?_⟩
    refine lc_it walk_tup (fun i H' => H' = upd H D (.lst ((m.ns.take i).map fun z => V.bl (decide (z ∈ ns))))) rfl (fun i H' _ e => e ▸ Bx.Same.tup (same_new hD) M.n) ?_ ?_
    · rintro i v H2 H3 hi rfl ⟨rfl, hx⟩
      obtain ⟨z, hz, rfl⟩ := at_map hx
      refine ⟨rfl, ?_⟩
      walk_at "rd"
      refine ⟨t, _, rfl, .inr (Bx.Same.tup (same_new hD) ht), rfl, Bx.flat_all ns, ?_⟩
      rw [Bx.inV_str]
      walk_at "rd"
      refine ⟨_, upd_same, ?_, ?_⟩
      · rw [List.length_map]
        exact szl (Nat.lt_of_le_of_lt (List.length_take_le' i _) (by omega))
      · rw [upd_upd, List.take_add_one, hz, List.map_append]
        rfl
    rintro H2 rfl
    rw [List.length_map, List.take_length]
    have e1 : (m.ns.map fun z => V.bl (decide (z ∈ ns))) = (m.ns.map fun z => decide (z ∈ ns)).map V.bl := by
      rw [List.map_map]
      rfl
    rw [e1]
    have sM := same_new hD (o := .lst ((m.ns.map fun z => decide (z ∈ ns)).map V.bl))
    have hM := upd_same (H := H) (a := D) (o := .lst ((m.ns.map fun z => decide (z ∈ ns)).map V.bl))
    generalize upd H D (.lst ((m.ns.map fun z => decide (z ∈ ns)).map V.bl)) = H2 at sM hM ⊢
    refine ⟨_, m.ns.map (fun z => decide (z ∈ ns)), rfl, sq hM, ?_⟩
    have e2 : (m.ns.map fun z => decide (z ∈ ns)).all id = m.ns.all fun z => decide (z ∈ ns) := by
      rw [List.all_map]
      rfl
    rw [e2]
    exact q _ sM
@[irreducible] def spSV (K : PySem.W.Frag) (C : Addr) : Sp := fun vs H Q _ => ∃ (a dx t p : Addr) (fs : List (Str × V)) (ns : List Str) (m : Mc), vs = [.ref a, .ref t, .ref p] ∧ H a = some (.ins C dx fs) ∧ fs.lookup ("names_in" : Str) = none ∧ SqT K H t (ns.map V.str) ∧ Dp K H (.ref p) (mcD m) ∧ m.ns.length ≤ 20 ∧ (∀ z ∈ m.ns, PyData.strOk z = true) ∧ m.rows.length ≤ 100 ∧ m.ends.length ≤ 100 ∧ (∀ r ∈ m.rows, r.length ≤ 100) ∧
  ∀ H', Same H H' → Q (.bl (okM ns m)) H'
abbrev nf_SV (cc cda : Addr) : NF := ⟨"is_valid", "Words.is_valid", defArgs s_Words_is_valid, defBody s_Words_is_valid, defScope s_Words_is_valid, [(("__class__" : Str), cc)], cda⟩
theorem eqv_nil (rs : List (List Int)) : PyData.eqv (.tuple (rs.map rowD)) (.tuple []) = decide (rs = []) := by
  cases rs with
  | nil => rfl
  | cons r rs => rfl
theorem lay_rows (rs : List (List Int)) : Lay 2 (.tuple (rs.map rowD)) := lay_tuple (lays_of fun d hd => by
  obtain ⟨r, _, rfl⟩ := List.mem_map.mp hd
  exact lay_tuple lays_ints)
set_option maxHeartbeats 4000000 in
theorem ok_valid {fI cc cda C g : Addr} {oc kV doc pm0 ct : Value} {od an : Option Addr} {osl : Array (Option Value)} (m_all : mg "all" = none) (m_len : mg "len" = none) (C_is_ascending : Cal P w K mg base "is_ascending" 1 ["values"] (spAsc K))
    (lk : K.lookup fI = some ⟨oc, od, .func (PySem.W.fnX "is_valid" "Words.is_valid" (defArgs s_Words_is_valid) (defBody s_Words_is_valid) (defScope s_Words_is_valid) [(("__class__" : Str), cc)] .none kV doc pm0 an (.ref cda) ct), osl⟩) (hcd : PySem.W.codeIn K (.ref cda) "Words.is_valid" = true)
    (hcc : ∃ cl cld csl, K.lookup cc = some ⟨cl, cld, .cell (some (.ref C)), csl⟩)
    (hco : ∃ (ccl : Value) (cdd : Option Addr) (vs : Array Value) (ccs : Array (Option Value)) (file : Str) (tf : Tok), K.lookup cda = some ⟨ccl, cdd, .fields vs, ccs⟩ ∧ vs[2]? = some (.str file tf) ∧ ((P.main.file : Str) == file) = true)
    (htop : (P.main.scope.names.lookup ("super" : Str)).isSome = false) (m_super : mg "super" = none) (hany : PySem.W.nsIn K cStatics "thirdparty.any" = some none) (T0 : SupM.SupA K C C "is_valid" g) (F0 : FnR P w K mg base CX0 2 g (spKV K C)) :
    FnOk P w K mg base CX0 4 fI (PySem.W.fnX "is_valid" "Words.is_valid" (defArgs s_Words_is_valid) (defBody s_Words_is_valid) (defScope s_Words_is_valid) [(("__class__" : Str), cc)] .none kV doc pm0 an (.ref cda) ct) ["self", "names", "constraint"] (spSV K C) := by
  obtain ⟨ccl, cdd, vs, ccs, file, tf, lc, hvs, hfile⟩ := hco
  obtain ⟨cl, cld, csl, lcc⟩ := hcc
  refine SupC.fn_atC (F := nf_SV cc cda) (k := 3) lk hcd rfl ⟨cl, cld, csl, lcc⟩ ns_Words_is_valid (fun vs H Q E h => ?_) (fun A outer s H vs Q E hr h => ?_)
  · unfold spSV at h
    obtain ⟨a, dx, t, p, fs, ns, m, rfl, _⟩ := h
    rfl
  · have S0 : ∀ L, SupF P K mg (SupC.envC (nf_SV cc cda) fI L) "self" C := fun L => ⟨rfl, rfl, ⟨fI, _, _, _, _, _, rfl, lk, rfl, rfl⟩, ⟨cda, ccl, cdd, _, ccs, file, tf, rfl, lc, hvs, hfile⟩, htop, ⟨cc, cl, cld, csl, rfl, lcc⟩, m_super, hany, rfl, rfl⟩
    have S0 := S0 s.heap.objs.size
    unfold spSV at h
    obtain ⟨a, dx, t, p, fs, ns, m, rfl, ha, hn, ht, hp, nl, sok, rl, el, rr, q⟩ := h
    obtain ⟨p', pn, pm, pe, xs, ep, M⟩ := mc_dp hp
    cases ep
    refine ⟨_, (SupM.pssa_cons (SupM.PSa.of (ps_asg (pv 2) (pg_tup rfl (pgs_cons (pg_name (i := 5) ns_Words_is_valid.nd rfl (Or.inl rfl)) (pgs_cons (pg_name (i := 6) ns_Words_is_valid.nd rfl (Or.inr rfl)) (pgs_cons (pg_name (i := 7) ns_Words_is_valid.nd rfl (Or.inl rfl)) pgs_nil))))))
    (SupM.pssa_cons (SupM.psa_if (SupM.pta_or (SupM.pta_not (SupM.pta_val (SupM.pea_sup S0 T0 F0 (hr.mono (by decide)) rfl (pa_cons (pv 1) (pa_cons (pv 2) pa_nil))))) (pw_or1 (pt_not (pt_val (pe_cal C_is_ascending (hr.mono (by decide)) (pa_cons (pv 5) pa_nil))))))
      (pss_one (ps_ret pe_bl))
      pss_nil)
    (SupM.PSsa.of (pss_cons (ps_if (PW.pt (pw_or (pt_cmpR (op_eqD hr.units) (pv 6) (pe_tup pa_nil) (nomark _)) (pw_or (pt_cmpR op_ne (pe_callB call_len_seq (by rfl) m_len PySem.boot_len (pa_cons (pv 6) pa_nil)) (pe_callB call_len_seq (by rfl) m_len PySem.boot_len (pa_cons (pv 7) pa_nil)) (nomark _)) (pw_or1 (pt_not (pt_val (pe_callB (id := "all") (cr_all rfl) (by rfl) m_all (by decide +kernel) (pa_cons (pe_lc (own := [("end", 9)]) (tt := tYes) rfl ns_Words_is_valid.nd (pi_tup (pv 7)) (blkOk_by (N := n_Words_is_valid) (sc := defScope s_Words_is_valid) (by decide +kernel)) (fun _ _ _ _ _ => pg_name (i := 9) ns_Words_is_valid.nd rfl (Or.inl rfl)) (fun _ _ _ _ _ => pts_nil) (fun _ _ _ _ _ => (pe_cmpR (op_in_seqK (K := K) rfl) (pv 9) (pe_tup (pa_cons pe_int (pa_cons pe_int pa_nil))) (by rfl)))) pa_nil))))))))
      (pss_one (ps_ret pe_bl))
      pss_nil)
    (pss_cons (ps_set (i := 4) ns_Words_is_valid.nd rfl (Or.inr rfl) (pe_op op_oneShl pe_int (pe_callB call_len_seq (by rfl) m_len PySem.boot_len (pa_cons (pv 5) pa_nil))))
    (pss_one (ps_ret (pe_callB (id := "all") (cr_all rfl) (by rfl) m_all (by decide +kernel) (pa_cons (pe_lc (own := [("row", 8)]) (tt := tYes) rfl ns_Words_is_valid.nd (pi_tup (pv 6)) (blkOk_by (N := n_Words_is_valid) (sc := defScope s_Words_is_valid) (by decide +kernel)) (fun _ _ _ _ _ => pg_name (i := 8) ns_Words_is_valid.nd rfl (Or.inl rfl)) (fun _ _ _ _ _ => pts_nil) (fun _ _ _ _ _ => (pe_and (pe_cmpR op_eq (pe_callB (call_len_seqK (K := K) rfl) (by rfl) m_len PySem.boot_len (pa_cons (pv 8) pa_nil)) (pv 4) (nomark _)) (pe_one (pe_callB (id := "all") (cr_allK (K := K) rfl rfl) (by rfl) m_all (by decide +kernel) (pa_cons (pe_lc (own := [("move", 10)]) (wi := iTup K (tVar 8)) (tt := tYes) rfl ns_Words_is_valid.nd (pi_tup (pv 8)) (Nx.blkOk_nest (N := n_Words_is_valid) (sc := defScope s_Words_is_valid) rfl (by decide +kernel)) (fun _ _ _ _ _ => pg_name (i := 10) ns_Words_is_valid.nd rfl (Or.inl rfl)) (fun _ _ _ _ _ => pts_nil) (fun _ _ _ _ _ => (pe_chain op_le op_lt (pe_un un_neg pe_int) (pv 10) (pe_callB (call_len_seqK (K := K) rfl) (by rfl) m_len PySem.boot_len (pa_cons (pv 6) pa_nil))))) pa_nil)))))) pa_nil))))))))), ?_⟩
    walk_at "rd"
    refine ⟨_, _, rfl, M.t, rfl, _, _, rfl, _, _, rfl, _, _, rfl, rfl, ?_⟩
    unfold okM at q
    refine ⟨a, dx, fs, rfl, ha, ?_⟩
    walk_at "rd"
    show spKV K C _ _ _ _
    unfold spKV
    refine ⟨a, dx, t, p, pn, pm, pe, fs, xs, ns, m, rfl, ha, hn, ht, M, by omega, fun H1 s1 => ?_⟩
    cases h0 : m.ns.all fun z => decide (z ∈ ns) with
    | false =>
      walk_at "rd"
      have q1 := q H1 s1
      rw [h0, Bool.false_and] at q1
      exact q1
    | true =>
    rw [h0] at q
    simp only [Bool.true_and] at q
    have M1 := M.same s1
    walk_at "rd"
    refine ⟨pn, m.ns, rfl, .inr M1.n, by omega, sok, fun H2 s2 => ?_⟩
    have s12 := s1.trans s2
    have M2 := M.same s12
    cases hB : ascB m.ns with
    | false =>
      walk_at "rd"
      have q1 := q H2 s12
      rw [hB, Bool.false_and] at q1
      exact q1
    | true =>
    rw [hB] at q
    simp only [Bool.true_and] at q
    walk_at "rd"
    refine ⟨sz (by decide), fun e0 ne0 => ?_⟩
    have s3 := same_new ne0 (o := .tup ([] : List V))
    have he0 : Dp K (upd H2 e0 (.tup [])) (.ref e0) (.tuple []) := .tup (sqt upd_same) .nil
    generalize upd H2 e0 (.tup []) = H3 at s3 he0 ⊢
    have s13 := s12.trans s3
    have M3 := M.same s13
    refine ⟨_, _, .tup M3.r M3.d, he0, shape (lay_rows m.rows) (by decide), shape (n := 1) (lay_tuple lays_nil) (by decide), ?_⟩
    rw [eqv_nil]
    by_cases hC : m.rows = []
    · rw [decide_eq_true hC]
      walk_at "rd"
      have q1 := q H3 s13
      rw [decide_eq_true hC] at q1
      exact q1
    rw [decide_eq_false hC] at q ⊢
    simp only [Bool.not_false, Bool.true_and] at q
    walk_at "rd"
    refine ⟨pm, _, rfl, .inr M3.r, ?_⟩
    walk_at "rd"
    refine ⟨pe, _, rfl, .inr M3.e, ?_⟩
    have xl : xs.length = m.rows.length := by rw [da_len M.d, List.length_map]
    walk_at "rd"
    have eD : decide (V.int (xs.length : Nat) = V.int ((m.ends.map V.int).length : Nat)) = decide (m.rows.length = m.ends.length) := decide_eq_decide.mpr ⟨fun z => by
      have z2 : ((xs.length : Nat) : Int) = ((m.ends.map V.int).length : Nat) := V.int.inj z
      rw [List.length_map] at z2
      omega, fun z => by rw [List.length_map, xl, z]⟩
    rw [eD]
    cases hD : decide (m.rows.length = m.ends.length) with
    | false =>
      walk_at "rd"
      have q1 := q H3 s13
      rw [hD, Bool.false_and] at q1
      exact q1
    | true =>
    rw [hD] at q
    simp only [Bool.true_and] at q
    walk_at "rd"
    refine ⟨⟨_, M3.e⟩, fun D hD2 => ?_⟩
    refine lc_it walk_tup (fun i H' => Same H3 H' ∧ H' D = some (.lst (((m.ends.take i).map fun e => decide (e = 0 ∨ e = 1)).map V.bl))) ⟨same_new hD2, upd_same⟩ (fun i H' _ h => Bx.Same.tup h.1 M3.e) ?_ ?_
    · rintro i v H4 H5 hi ⟨s4, hM⟩ ⟨rfl, hx⟩
      obtain ⟨e, he, rfl⟩ := at_map hx
      refine ⟨rfl, ?_⟩
      walk_at "rd"
      refine ⟨sz (by show 2 ≤ 100000; decide), fun T nT => ?_⟩
      have sT := same_new nT (o := .tup [.int 0, .int 1])
      have hT := upd_same (H := H5) (a := T) (o := .tup [.int 0, .int 1])
      generalize upd H5 T (.tup [.int 0, .int 1]) = H6 at sT hT ⊢
      refine ⟨T, _, rfl, .inr (sqt hT), rfl, rfl, ?_⟩
      rw [in01]
      refine ⟨_, sT _ _ hM, ?_, same_at hD2 (s4.trans sT), ?_⟩
      · rw [List.length_map, List.length_map]
        exact szl (Nat.lt_of_le_of_lt (List.length_take_le' i _) (by omega))
      · rw [upd_same, List.take_add_one, he, List.map_append, List.map_append]
        rfl
    rintro H4 ⟨s4, hM⟩
    rw [List.length_map, List.take_length] at hM
    have s14 := s13.trans s4
    have M4 := M.same s14
    refine ⟨_, _, rfl, sq hM, ?_⟩
    have eE : ((m.ends.map fun e => decide (e = 0 ∨ e = 1)).all id) = m.ends.all fun e => decide (e = 0 ∨ e = 1) := by
      rw [List.all_map]
      rfl
    rw [eE]
    cases hE : m.ends.all fun e => decide (e = 0 ∨ e = 1) with
    | false =>
      walk_at "rd"
      have q1 := q H4 s14
      rw [hE, Bool.false_and] at q1
      exact q1
    | true =>
    rw [hE] at q
    simp only [Bool.true_and] at q
    walk_at "rd"
    refine ⟨pn, _, rfl, .inr M4.n, ?_⟩
    walk_at "rd"
    refine ⟨m.ns.length, rfl, by rw [List.length_map], by omega, ?_⟩
    have e2 : ((2 : Int) ^ m.ns.length) = ((2 ^ m.ns.length : Nat) : Int) := by rw [Int.natCast_pow]; rfl
    rw [e2]
    walk_at "rd"
    refine ⟨⟨_, M4.r⟩, fun D2 hD3 => ?_⟩
    refine lc_it walk_tup (fun i H' => Same H4 H' ∧ H' D2 = some (.lst (((m.rows.take i).map (okRow m.ns.length m.rows.length)).map V.bl))) ⟨same_new hD3, upd_same⟩ (fun i H' _ h => Bx.Same.tup h.1 M4.r) ?_ ?_
    · rintro i v H5 H6 hi ⟨s5, hM5⟩ ⟨rfl, hx⟩
      obtain ⟨r, hr0, dr⟩ := da_atM M4.d hx
      obtain ⟨q', rfl, hq⟩ := row_dp dr
      have hq6 := Bx.Same.tup s5 hq
      have rl100 := rr r (List.mem_of_getElem? hr0)
      have done : ∀ H7, Same H6 H7 → ∀ b, b = okRow m.ns.length m.rows.length r → ∃ acc, H7 D2 = some (.lst acc) ∧ acc.length < sizeLine ∧ Same H4 (upd H7 D2 (.lst (acc ++ [V.bl b]))) ∧ (upd H7 D2 (.lst (acc ++ [V.bl b]))) D2 = some (.lst (((m.rows.take (i + 1)).map (okRow m.ns.length m.rows.length)).map V.bl)) := fun H7 s7 b hb => by
        refine ⟨_, s7 _ _ hM5, ?_, same_at hD3 (s5.trans s7), ?_⟩
        · rw [List.length_map, List.length_map]
          exact szl (Nat.lt_of_le_of_lt (List.length_take_le' i _) (by omega))
        · rw [upd_same, List.take_add_one, hr0, List.map_append, List.map_append, hb]
          rfl
      refine ⟨rfl, ?_⟩
      walk_at "rd"
      refine ⟨q', _, rfl, .inr hq6, ?_⟩
      walk_at "rd"
      have eL : decide (V.int ((r.map V.int).length : Nat) = V.int ((2 ^ m.ns.length : Nat) : Int)) = decide (r.length = 2 ^ m.ns.length) := decide_eq_decide.mpr ⟨fun z => by
        have z2 : (((r.map V.int).length : Nat) : Int) = ((2 ^ m.ns.length : Nat) : Int) := V.int.inj z
        rw [List.length_map] at z2
        exact Int.ofNat.inj z2, fun z => by rw [List.length_map, z]⟩
      rw [eL]
      unfold okRow at done
      cases hL : decide (r.length = 2 ^ m.ns.length) with
      | false =>
        walk_at "rd"
        exact done H6 (Same.refl _) false (by rw [hL, Bool.false_and])
      | true =>
      walk_at "rd"
      refine ⟨⟨_, hq6⟩, fun D3 hD4 => ?_⟩
      refine lc_it walk_tup (fun j H' => H' = upd H6 D3 (.lst (((r.take j).map fun x => decide (-1 ≤ x) && decide (x < (m.rows.length : Int))).map V.bl))) rfl (fun j H' _ e => e ▸ Bx.Same.tup (same_new hD4) hq6) ?_ ?_
      · rintro j v H7a H7 hj rfl ⟨rfl, hx7⟩
        obtain ⟨x, hxx, rfl⟩ := at_map hx7
        have M7 : SqT K (upd H6 D3 (.lst (((r.take j).map fun x => decide (-1 ≤ x) && decide (x < (m.rows.length : Int))).map V.bl))) pm xs := Bx.Same.tup (same_new hD4) (Bx.Same.tup s5 M4.r)
        have fin : ∀ b, b = (decide (-1 ≤ x) && decide (x < (m.rows.length : Int))) → ∃ acc, (upd H6 D3 (.lst (((r.take j).map fun x => decide (-1 ≤ x) && decide (x < (m.rows.length : Int))).map V.bl))) D3 = some (.lst acc) ∧ acc.length < sizeLine ∧ upd (upd H6 D3 (.lst (((r.take j).map fun x => decide (-1 ≤ x) && decide (x < (m.rows.length : Int))).map V.bl))) D3 (.lst (acc ++ [V.bl b])) = upd H6 D3 (.lst (((r.take (j + 1)).map fun x => decide (-1 ≤ x) && decide (x < (m.rows.length : Int))).map V.bl)) := fun b hb => by
          refine ⟨_, upd_same, ?_, ?_⟩
          · rw [List.length_map, List.length_map]
            exact szl (Nat.lt_of_le_of_lt (List.length_take_le' j _) (by omega))
          · rw [upd_upd, List.take_add_one, hxx, List.map_append, List.map_append, hb]
            rfl
        refine ⟨rfl, ?_⟩
        walk_at "rd"
        cases h1 : decide (-1 ≤ x) with
        | false =>
          walk_at "rd"
          exact fin false (by rw [h1, Bool.false_and])
        | true =>
          walk_at "rd"
          refine ⟨pm, _, rfl, .inr M7, ?_⟩
          walk_at "rd"
          exact fin (decide (x < (xs.length : Int))) (by rw [h1, Bool.true_and, xl])
      rintro H7 rfl
      rw [List.length_map, List.take_length]
      have s7 := same_new hD4 (o := .lst ((r.map fun x => decide (-1 ≤ x) && decide (x < (m.rows.length : Int))).map V.bl))
      refine ⟨_, _, rfl, sq upd_same, ?_⟩
      exact done _ s7 _ (by rw [hL, Bool.true_and, List.all_map]; rfl)
    rintro H5 ⟨s5, hM5⟩
    rw [xl, List.take_length] at hM5
    refine ⟨_, _, rfl, sq hM5, ?_⟩
    have eF : ((m.rows.map (okRow m.ns.length m.rows.length)).all id) = m.rows.all (okRow m.ns.length m.rows.length) := by
      rw [List.all_map]
      rfl
    rw [eF]
    exact q H5 (s14.trans s5)
end
end K36
namespace K36
local macro_rules | `(tactic| walk_at "rd") => `(tactic| repeat (first | refine ⟨rfl, ?_⟩ | refine ⟨_, rfl, ?_⟩ | refine ⟨_, _, rfl, rfl, ?_⟩ | refine ⟨⟨_, rfl⟩, ?_⟩))
open PySem PySem.Spec PyProof.Rows L2 Bx TL Dx Zx Ow Sup NdefX Px
theorem cut_pre (xs : List V) (k : Nat) : cutV xs none (some (k : Int)) = xs.take k := by
  unfold cutV
  rw [HT.sIx_nat, HT.sIx_none, List.drop_zero, Nat.sub_zero]
  by_cases h : k ≤ xs.length
  · rw [Nat.min_eq_left h]
  · rw [Nat.min_eq_right (by omega), List.take_of_length_le (show xs.length ≤ k by omega), List.take_length]
theorem pows {n : Nat} (h : n ≤ 3) : [V.int 1, .int 2, .int 4, .int 8][n]? = some (.int ((2 ^ n : Nat) : Int)) := by
  have e : n = 0 ∨ n = 1 ∨ n = 2 ∨ n = 3 := by omega
  rcases e with rfl | rfl | rfl | rfl <;> rfl
structure MachOk (m : Mc) : Prop where
  ok : McOk m
  sub : m.ns.Sublist POOL
  s4 : m.rows.length ≤ 4
  n3 : m.ns.length ≤ 3
  e01 : ∀ e ∈ m.ends, e = 0 ∨ e = 1
section
variable {P : Program} {w : World} {K : PySem.W.Frag} {mg : Str → Option Value} {base : Heap}
@[irreducible] def spMach (K : PySem.W.Frag) : Sp := fun vs H Q _ => ∃ s : Addr, vs = [.ref s] ∧ Src H s ∧ ∀ (v : V) (m : Mc) (H' : Hp), SameBut s H H' → Src H' s → Dp K H' v (mcD m) → MachOk m → Q v H'
set_option maxHeartbeats 4000000 in
theorem ok_machine {f : Addr} {fd : FuncData} (F : Fun K "_law_machine" "_law_machine" s__law_machine f fd) (m_tuple : mg "tuple" = none) (m_range : mg "range" = none) (m_len : mg "len" = none) (C__law_draw : CDraw P w K mg base) (C__law_pool : Cal P w K mg base "_law_pool" 1 [] (spPool K)) : FnOk P w K mg base CX0 2 f fd ["_law_source_here"] (spMach K) := by
  refine F.ok sc__law_machine (fun vs H Q E h => ?_) (fun cdv A outer s H vs Q E hr h => ?_)
  · unfold spMach at h
    obtain ⟨s, rfl, _⟩ := h
    rfl
  · unfold spMach at h
    obtain ⟨src, rfl, hA, q⟩ := h
    refine ⟨_, (pss_cons (ps_set (i := 1) sc__law_machine.nd rfl (Or.inl rfl) (pe_callTy (T := "tuple") call_tuple_of (by rfl) m_tuple (by decide +kernel) (pa_cons (pe_slice sl_list (pe_lc (own := [("_law_name", 9)]) rfl sc__law_machine.nd (pi_tup (pe_cal0 C__law_pool (hr.mono (by decide)))) (blkOk_by (N := n__law_machine) (sc := defScope s__law_machine) (by decide +kernel)) (fun _ _ _ _ _ => pg_name (i := 9) sc__law_machine.nd rfl (Or.inl rfl)) (fun _ _ _ _ _ => pts_one (pt_cmpR op_eq (pe_cal C__law_draw (hr.mono (by decide)) (pa_cons (pv 0) (pa_cons pe_int pa_nil))) pe_int (nomark _))) (fun _ _ _ _ _ => (pv 9))) po_none (po_some pe_int)) pa_nil)))
    (pss_cons (ps_set (i := 2) sc__law_machine.nd rfl (Or.inl rfl) (pe_op op_add pe_int (pe_cal C__law_draw (hr.mono (by decide)) (pa_cons (pv 0) (pa_cons pe_int pa_nil)))))
    (pss_cons (ps_set (i := 3) sc__law_machine.nd rfl (Or.inl rfl) (pe_cal C__law_draw (hr.mono (by decide)) (pa_cons (pv 0) (pa_cons pe_int pa_nil))))
    (pss_cons (ps_set (i := 4) sc__law_machine.nd rfl (Or.inl rfl) (pe_lst pa_nil))
    (pss_cons (ps_for PassesOwn.never rfl (pi_range1 (by rfl) m_range (pa_cons (pv 2) pa_nil)) (pg_name (i := 5) sc__law_machine.nd rfl (Or.inl rfl))
      (pss_cons (ps_set (i := 7) sc__law_machine.nd rfl (Or.inl rfl) (pe_lst pa_nil))
    (pss_cons (ps_for PassesOwn.never rfl (pi_range1 (by rfl) m_range (pa_cons (pe_ix ix_list (pe_lst (pa_cons pe_int (pa_cons pe_int (pa_cons pe_int (pa_cons pe_int pa_nil))))) (pe_callB call_len_seq (by rfl) m_len PySem.boot_len (pa_cons (pv 1) pa_nil)) (fun _ _ => rfl)) pa_nil)) (pg_name (i := 8) sc__law_machine.nd rfl (Or.inl rfl))
      (pss_one (ps_expr (pe_bm PySem.F.plainAttrs_list PySem.F.slot_list_append PySem.F.type_list_append mt_append (pv 7) (pa_cons (pe_op op_sub (pe_cal C__law_draw (hr.mono (by decide)) (pa_cons (pv 0) (pa_cons (pe_op op_add (pv 2) (pv 3)) pa_nil))) (pv 3)) pa_nil)))))
    (pss_one (ps_expr (pe_bm PySem.F.plainAttrs_list PySem.F.slot_list_append PySem.F.type_list_append mt_append (pv 4) (pa_cons (pe_callTy (T := "tuple") call_tuple_of (by rfl) m_tuple (by decide +kernel) (pa_cons (pv 7) pa_nil)) pa_nil)))))))
    (pss_cons (ps_set (i := 6) sc__law_machine.nd rfl (Or.inl rfl) (pe_callTy (T := "tuple") call_tuple_of (by rfl) m_tuple (by decide +kernel) (pa_cons (pe_lc (own := [("_law_state", 5)]) (tt := tYes) rfl sc__law_machine.nd (pi_range1 (by rfl) m_range (pa_cons (pv 2) pa_nil)) (blkOk_by (N := n__law_machine) (sc := defScope s__law_machine) (by decide +kernel)) (fun _ _ _ _ _ => pg_name (i := 5) sc__law_machine.nd rfl (Or.inl rfl)) (fun _ _ _ _ _ => pts_nil) (fun _ _ _ _ _ => (pe_cal C__law_draw (hr.mono (by decide)) (pa_cons (pv 0) (pa_cons pe_int pa_nil))))) pa_nil)))
    (pss_one (ps_ret (pe_tup (pa_cons (pv 1) (pa_cons (pe_callTy (T := "tuple") call_tuple_of (by rfl) m_tuple (by decide +kernel) (pa_cons (pv 4) pa_nil)) (pa_cons (pv 6) pa_nil)))))))))))), ?_⟩
    walk_at "rd"
    show spPool K _ _ _ _
    unfold spPool
    refine ⟨rfl, fun pl npl => ?_⟩
    have s1 := same_new npl (o := .tup (POOL.map V.str))
    have hpl := upd_same (H := H) (a := pl) (o := .tup (POOL.map V.str))
    have hA1 := src_same hA s1
    generalize upd H pl (.tup (POOL.map V.str)) = H1 at s1 hpl hA1 ⊢
    refine ⟨pl, rfl, ⟨_, sqt hpl⟩, fun D hD => ?_⟩
    have nDs := src_ne hA1 hD
    refine lc_it walk_tup (fun i H' => SameBut src H1 H' ∧ Src H' src ∧ ∃ ms : List Str, H' D = some (.lst (ms.map V.str)) ∧ ms.Sublist (POOL.take i)) ⟨Bx.Same.but (same_new hD), src_upd hA1 nDs, [], upd_same, List.nil_sublist _⟩ (fun i H' _ h => sqt_but hA1 h.1 (sqt hpl)) ?_ ?_
    · rintro i v H2a H2 hi ⟨s2, hA2, ms, hM, sub⟩ ⟨rfl, hx⟩
      obtain ⟨z, hz, rfl⟩ := at_map hx
      refine ⟨rfl, ?_⟩
      walk_at "rd"
      refine draw_of (lim := 2) hA2 (by decide) fun r H3 _ _ s3 hA3 => ?_
      have hM3 := s3 _ _ nDs.symm hM
      walk_at "rd"
      refine ite2 (fun _ => ?_) (fun _ => ⟨s2.trans s3, hA3, ms, hM3, sub_skip sub⟩)
      walk_at "rd"
      refine ⟨_, hM3, szl (by rw [List.length_map]; exact Nat.lt_of_le_of_lt (Nat.le_trans sub.length_le (List.length_take_le' i POOL)) (by decide)), but_at hD (s2.trans s3), src_upd hA3 nDs, ms ++ [z], by rw [upd_same, List.map_append]; rfl, sub_snoc sub hz⟩
    rintro H2 ⟨s2, hA2, ms, hM, sub⟩
    have sub4 : ms.Sublist POOL := by
      rw [List.length_map, List.take_length] at sub
      exact sub
    walk_at "rd"
    refine ⟨D, _, rfl, sq hM, fun A3 nA3 => ?_⟩
    have e3 : cutV (ms.map V.str) none (some 3) = (ms.take 3).map V.str := by
      rw [List.map_take]
      exact cut_pre _ 3
    rw [e3]
    have s3 := same_new nA3 (o := .lst ((ms.take 3).map V.str))
    have hA3 := upd_same (H := H2) (a := A3) (o := .lst ((ms.take 3).map V.str))
    generalize upd H2 A3 (.lst ((ms.take 3).map V.str)) = H3 at s3 hA3 ⊢
    refine ⟨A3, _, rfl, .inl ⟨sq hA3, fun na nna => ?_⟩⟩
    have s4 := same_new nna (o := .tup ((ms.take 3).map V.str))
    have hna := upd_same (H := H3) (a := na) (o := .tup ((ms.take 3).map V.str))
    have hA4 := src_same hA2 (s3.trans s4)
    have s04 : SameBut src H _ := (Bx.Same.but s1).trans (s2.trans (Bx.Same.but (s3.trans s4)))
    have nsub : (ms.take 3).Sublist POOL := (List.take_sublist 3 ms).trans sub4
    have n3 : (ms.take 3).length ≤ 3 := List.length_take_le 3 ms
    generalize ms.take 3 = ns at hna nsub n3 s04 hA4 ⊢
    generalize upd H3 na (.tup (ns.map V.str)) = H4 at s4 hna hA4 s04 ⊢
    walk_at "rd"
    refine draw_of (lim := 4) hA4 (by decide) fun r5 H5 h50 h51 s5 hA5 => ?_
    walk_at "rd"
    obtain ⟨S, eS, S1, S4⟩ : ∃ S : Nat, 1 + r5 = ((S : Nat) : Int) ∧ 1 ≤ S ∧ S ≤ 4 := ⟨(1 + r5).toNat, by omega, by omega, by omega⟩
    dsimp only
    rw [eS]
    refine draw_of (lim := 2) hA5 (by decide) fun lo H6 h60 h61 s6 hA6 => ?_
    walk_at "rd"
    refine ⟨sz (by decide), fun M nM => ?_⟩
    have nMs := src_ne hA6 nM
    have s7 := same_new nM (o := .lst ([] : List V))
    have hM7 := upd_same (H := H6) (a := M) (o := .lst ([] : List V))
    have hA7 := src_same hA6 s7
    have hna6 : SqT K H6 na (ns.map V.str) := sqt_but hA4 (s5.trans s6) (sqt hna)
    have s06 := s04.trans (s5.trans s6)
    generalize upd H6 M (.lst []) = H7 at s7 hM7 hA7 ⊢
    have p8 : 2 ^ ns.length ≤ 8 := Nat.pow_le_pow_right (by decide) n3
    have pw := pows n3
    generalize hW : 2 ^ ns.length = W at p8 pw
    walk_at "rd"
    refine ⟨by omega, by omega, for_it walk_range (fun i σ H' => ∃ (o5 o7 o8 : Option V) (us : List V) (rs : List (List Int)), σ = [some (.ref src), some (.ref na), some (.int ((S : Nat) : Int)), some (.int lo), some (.ref M), o5, none, o7, o8, none] ∧ SameBut src H6 H' ∧ Src H' src ∧ H' M = some (.lst us) ∧ DpAll K H' us (rs.map rowD) ∧ rs.length = i ∧ ∀ r ∈ rs, r.length = W ∧ ∀ x ∈ r, -1 ≤ x ∧ x < ((S : Nat) : Int))
      ⟨none, none, none, [], [], rfl, Bx.Same.but s7, hA7, hM7, .nil, rfl, fun r hr => (by cases hr)⟩ (fun _ _ _ _ _ => trivial) ?_ ?_⟩
    · rintro i x σ H8a H8 hi ⟨o5, o7, o8, us, rs, rfl, s8, hA8, hM8, dus, rl, rok⟩ ⟨rfl, rfl⟩
      walk_at "rd"
      refine ⟨sz (by decide), fun Rw nRw => ?_⟩
      have nRs := src_ne hA8 nRw
      have s9 := same_new nRw (o := .lst ([] : List V))
      have hR9 := upd_same (H := H8) (a := Rw) (o := .lst ([] : List V))
      have hA9 := src_same hA8 s9
      generalize upd H8 Rw (.lst []) = H9 at s9 hR9 hA9 ⊢
      walk_at "rd"
      refine ⟨sz (by show 4 ≤ 100000; decide), fun L4 nL4 => ?_⟩
      have s10 := same_new nL4 (o := .lst [V.int 1, .int 2, .int 4, .int 8])
      have hL4 := upd_same (H := H9) (a := L4) (o := .lst [V.int 1, .int 2, .int 4, .int 8])
      have hA10 := src_same hA9 s10
      have hR10 := s10 _ _ hR9
      generalize upd H9 L4 (.lst [V.int 1, .int 2, .int 4, .int 8]) = H10 at s10 hL4 hA10 hR10 ⊢
      have hna10 := Bx.Same.tup (s9.trans s10) (sqt_but hA6 s8 hna6)
      walk_at "rd"
      refine ⟨na, _, rfl, .inr hna10, ?_⟩
      refine ⟨_, _, _, _, rfl, rfl, sq hL4, by rw [List.length_map]; exact atI_nat pw, ?_⟩
      walk_at "rd"
      refine ⟨by omega, by omega, for_it walk_range (fun c σ H' => ∃ (o8 : Option V) (xs : List Int), σ = [some (.ref src), some (.ref na), some (.int ((S : Nat) : Int)), some (.int lo), some (.ref M), some (.int (0 + (i : Nat))), none, some (.ref Rw), o8, none] ∧ SameBut src H8 H' ∧ Src H' src ∧ H' Rw = some (.lst (xs.map V.int)) ∧ xs.length = c ∧ ∀ x ∈ xs, -1 ≤ x ∧ x < ((S : Nat) : Int))
        ⟨o8, [], rfl, Bx.Same.but (s9.trans s10), hA10, hR10, rfl, fun x hx => (by cases hx)⟩ (fun _ _ _ _ _ => trivial) ?_ ?_⟩
      · rintro c x σ H11a H11 hc ⟨o8, xs, rfl, s11, hA11, hR11, xl, xok⟩ ⟨rfl, rfl⟩
        have hc2 : c < 8 := by omega
        walk_at "rd"
        refine ⟨.inl ⟨rfl, _, sq hR11⟩, ?_⟩
        walk_at "rd"
        refine draw_of (lim := ((S : Nat) : Int) + lo) hA11 ⟨by omega, by omega⟩ fun r12 H12 h120 h121 s12 hA12 => ?_
        have hR12 := s12 _ _ nRs.symm hR11
        walk_at "rd"
        refine ⟨Rw, _, _, rfl, rfl, hR12, szl (by rw [List.length_map]; omega), ?_⟩
        refine ⟨_, xs ++ [r12 - lo], rfl, but_at nRw (s11.trans s12), src_upd hA12 nRs, by rw [upd_same, List.map_append]; rfl, by rw [List.length_append, xl]; rfl, fun x hx => ?_⟩
        rcases List.mem_append.mp hx with h | h
        · exact xok x h
        · rw [List.mem_singleton.mp h]
          exact ⟨by omega, by omega⟩
      · rintro σ H11 ⟨o8, xs, rfl, s11, hA11, hR11, xl, xok⟩
        have xl2 : xs.length = W := by rw [xl]; omega
        have hM11 := s11 _ _ nMs.symm hM8
        have dus11 := da_tk (tk_but hA8 s11) _ _ (tup_rows rs) dus
        have wl : us.length = rs.length := by rw [da_len dus, List.length_map]
        walk_at "rd"
        refine ⟨.inl ⟨rfl, _, sq hM11⟩, ?_⟩
        walk_at "rd"
        refine ⟨Rw, _, rfl, .inl ⟨sq hR11, fun tq ntq => ?_⟩⟩
        have s12 := same_new ntq (o := .tup (xs.map V.int))
        have htq := upd_same (H := H11) (a := tq) (o := .tup (xs.map V.int))
        have hA12 := src_same hA11 s12
        have hM12 := s12 _ _ hM11
        have dus12 := dpAll_same s12 dus11
        generalize upd H11 tq (.tup (xs.map V.int)) = H12 at s12 htq hA12 hM12 dus12 ⊢
        refine ⟨M, _, _, rfl, rfl, hM12, szl (by omega), ?_⟩
        have tk := tk_lst (K := K) (o := .lst (us ++ [.ref tq])) hM12
        refine ⟨_, _, _, us ++ [.ref tq], rs ++ [xs], rfl, but_at nM (s8.trans (s11.trans (Bx.Same.but s12))), src_upd hA12 nMs, upd_same, ?_, by rw [List.length_append, rl]; rfl, fun r hr => ?_⟩
        · rw [List.map_append]
          exact da_app (da_tk tk _ _ (tup_rows rs) dus12) (da_one (dp_tk tk _ _ (show tupD (rowD xs) = true from tup_row xs) (dp_row (r := xs) (sqt htq))))
        · rcases List.mem_append.mp hr with h | h
          · exact rok r h
          · rw [List.mem_singleton.mp h]
            exact ⟨xl2, xok⟩
    · rintro σ H8 ⟨o5, o7, o8, us, rs, rfl, s8, hA8, hM8, dus, rl, rok⟩
      have rlS : rs.length = S := by omega
      walk_at "rd"
      refine ⟨by omega, by omega, fun D2 hD2 => ?_⟩
      have nD2 := src_ne hA8 hD2
      refine lc_it walk_range (fun i H' => SameBut src H8 H' ∧ Src H' src ∧ ∃ es : List Int, H' D2 = some (.lst (es.map V.int)) ∧ es.length = i ∧ ∀ e ∈ es, e = 0 ∨ e = 1) ⟨Bx.Same.but (same_new hD2), src_upd hA8 nD2, [], upd_same, rfl, fun e he => (by cases he)⟩ (fun _ _ _ _ => trivial) ?_ ?_
      · rintro i v H9a H9 hi ⟨s9, hA9, es, hM, el, eok⟩ ⟨rfl, rfl⟩
        refine ⟨rfl, ?_⟩
        walk_at "rd"
        refine draw_of (lim := 2) hA9 (by decide) fun r H10 h0 h1 s10 hA10 => ?_
        have hM10 := s10 _ _ nD2.symm hM
        refine ⟨_, hM10, szl (by rw [List.length_map]; omega), but_at hD2 (s9.trans s10), src_upd hA10 nD2, es ++ [r], by rw [upd_same, List.map_append]; rfl, by rw [List.length_append, el]; rfl, fun e he => ?_⟩
        rcases List.mem_append.mp he with h | h
        · exact eok e h
        · rw [List.mem_singleton.mp h]
          omega
      rintro H9 ⟨s9, hA9, es, hM9, el, eok⟩
      have elS : es.length = S := by omega
      walk_at "rd"
      refine ⟨D2, _, rfl, .inl ⟨sq hM9, fun pe npe => ?_⟩⟩
      have s10 := same_new npe (o := .tup (es.map V.int))
      have hpe := upd_same (H := H9) (a := pe) (o := .tup (es.map V.int))
      generalize upd H9 pe (.tup (es.map V.int)) = H10 at s10 hpe ⊢
      have hM10 := s10 _ _ (s9 _ _ nMs.symm hM8)
      have dus10 := dpAll_same s10 (da_tk (tk_but hA8 s9) _ _ (tup_rows rs) dus)
      walk_at "rd"
      refine ⟨M, _, rfl, .inl ⟨sq hM10, fun pm npm => ?_⟩⟩
      have s11 := same_new npm (o := .tup us)
      have hpm := upd_same (H := H10) (a := pm) (o := .tup us)
      generalize upd H10 pm (.tup us) = H11 at s11 hpm ⊢
      walk_at "rd"
      refine ⟨sz (by show 3 ≤ 100000; decide), fun T nT => ?_⟩
      have s12 := same_new nT (o := .tup [.ref na, .ref pm, .ref pe])
      have s610 := s8.trans (s9.trans (Bx.Same.but s10))
      refine q (.ref T) ⟨ns, rs, es⟩ _ (s06.trans (s610.trans (Bx.Same.but (s11.trans s12)))) (src_same hA9 (s10.trans (s11.trans s12))) (dp_mc (pn := na) (pm := pm) (pe := pe) (xs := us) ⟨sqt upd_same, Bx.Same.tup (s11.trans s12) (sqt_but hA6 s610 hna6), sqt (s12 _ _ hpm), dpAll_same (s11.trans s12) dus10, sqt ((s11.trans s12) _ _ hpe)⟩) ⟨⟨⟨by show 0 < rs.length; omega, fun r hr => ⟨(rok r hr).1.trans hW.symm, fun x hx => by
        have := (rok r hr).2 x hx
        show -1 ≤ x ∧ x < ((rs.length : Nat) : Int)
        rw [rlS]
        exact this⟩⟩, by show es.length = rs.length; omega, fun z hz => nsub.subset hz, by show ns.length ≤ 4; omega⟩, nsub, by show rs.length ≤ 4; omega, n3, eok⟩
end
end K36
namespace K36
local macro_rules | `(tactic| walk_at "rd") => `(tactic| repeat (first | refine ⟨rfl, ?_⟩ | refine ⟨_, rfl, ?_⟩ | refine ⟨_, _, rfl, rfl, ?_⟩ | refine ⟨⟨_, rfl⟩, ?_⟩))
open PySem PySem.Spec PyProof.Rows L2 Bx TL Dx Zx Ow Sup NdefX Px
theorem app_len (x y : Str) : (x ++ y).length = x.length + y.length := by
  rw [len_tl, tl_append, List.length_append, ← len_tl, ← len_tl]
theorem put_new {kvs : List (Key × V)} {k : Key} {v : V} (h : ∀ kv ∈ kvs, kv.1 ≠ k) : putK kvs k v = kvs ++ [(k, v)] := by
  unfold putK
  have e : (kvs.any fun kv => decide (kv.1 = k)) = false := by
    rw [List.any_eq_false]
    intro kv hk
    simp only [decide_eq_true_eq]
    exact h kv hk
  rw [e]
  rfl
theorem free_but {s d : Addr} {H H1 : Hp} (b : SameBut s H H1) (nd : H1 d = none) (ne : d ≠ s) : H d = none := by
  cases e : H d with
  | none => rfl
  | some o =>
    rw [b d o ne e] at nd
    cases nd
def Wt (j : Nat) (z : Str) : Prop := z.length = j ∧ ∀ c ∈ tl z, c < 0x110000
theorem Wt.ok {j : Nat} {z : Str} (h : Wt j z) : PyData.strOk z = true := by
  unfold PyData.strOk
  rw [Array.all_eq_true']
  intro c hc
  exact decide_eq_true (h.2 c (by simpa using hc))
theorem Wt.snoc {j c : Nat} {z : Str} (h : Wt j z) (hc : c < 0x110000) : Wt (j + 1) (z ++ ⟨#[c]⟩) := by
  refine ⟨by rw [app_len, h.1]; rfl, fun d hd => ?_⟩
  rw [tl_append] at hd
  rcases List.mem_append.mp hd with k | k
  · exact h.2 d k
  · have e : d ∈ [c] := k
    rw [List.mem_singleton.mp e]
    exact hc
section
variable {P : Program} {w : World} {K : PySem.W.Frag} {mg : Str → Option Value} {base : Heap}
@[irreducible] def spWords (K : PySem.W.Frag) : Sp := fun vs H Q _ => ∃ s : Addr, vs = [.ref s] ∧ Src H s ∧ ∀ (d : Addr) (n : Nat) (ws : Wd) (H' : Hp), SameBut s H H' → Src H' s → H' d = some (.dK (wkV n ws)) → WsOk n ws → Q (.ref d) H'
set_option maxHeartbeats 4000000 in
theorem ok_words {f : Addr} {fd : FuncData} (F : Fun K "_law_words" "_law_words" s__law_words f fd) (m_range : mg "range" = none) (C__law_draw : CDraw P w K mg base) (C__law_pool : Cal P w K mg base "_law_pool" 1 [] (spPool K)) : FnOk P w K mg base CX0 2 f fd ["_law_source_here"] (spWords K) := by
  refine F.ok sc__law_words (fun vs H Q E h => ?_) (fun cdv A outer s H vs Q E hr h => ?_)
  · unfold spWords at h
    obtain ⟨s, rfl, _⟩ := h
    rfl
  · unfold spWords at h
    obtain ⟨src, rfl, hA, q⟩ := h
    have hu := hu_of hr
    refine ⟨_, (pss_cons (ps_set (i := 1) sc__law_words.nd rfl (Or.inl rfl) (pe_cal C__law_draw (hr.mono (by decide)) (pa_cons (pv 0) (pa_cons pe_int pa_nil))))
    (pss_cons (ps_set (i := 2) sc__law_words.nd rfl (Or.inl rfl) (pe_disp (pps_cons pe_str (pv 1) pps_nil) (by rfl) (by rfl) (by simp) (by decide)))
    (pss_cons (ps_for PassesOwn.never rfl (pi_tup (pe_cal0 C__law_pool (hr.mono (by decide)))) (pg_name (i := 3) sc__law_words.nd rfl (Or.inl rfl))
      (pss_cons (ps_set (i := 4) sc__law_words.nd rfl (Or.inl rfl) pe_str)
    (pss_cons (ps_for PassesOwn.never rfl (pi_range1 (by rfl) m_range (pa_cons (pv 1) pa_nil)) (pg_name (i := 5) sc__law_words.nd rfl (Or.inl rfl))
      (pss_one (ps_set (i := 4) sc__law_words.nd rfl (Or.inl rfl) (pe_op op_add_str (pv 4) (pe_ix ix_str pe_str (pe_cal C__law_draw (hr.mono (by decide)) (pa_cons (pv 0) (pa_cons pe_int pa_nil))) (fun _ _ => rfl))))))
    (pss_one (ps_dput hu (pv 2) (pv 3) (pv 4) rfl)))))
    (pss_one (ps_ret (pv 2)))))), ?_⟩
    walk_at "rd"
    refine draw_of (lim := 9) hA (by decide) fun n0 H1 h0 h1 s1 hA1 => ?_
    obtain ⟨n, rfl⟩ := Int.eq_ofNat_of_zero_le h0
    walk_at "rd"
    refine fun d nd => ?_
    have nds := src_ne hA1 nd
    walk_at "rd"
    refine ⟨upd_same, [(.inr emp, .int (n : Nat))], rfl, by show 1 ≤ 15; decide, ?_⟩
    rw [upd_upd]
    have s2 := same_new nd (o := .dK (wkV n []))
    have hd2 := upd_same (H := H1) (a := d) (o := .dK (wkV n []))
    have hA2 := src_same hA1 s2
    have nd0 : H d = none := free_but s1 nd nds.symm
    rw [show mergeK [] [((.inr emp : Key), V.int (n : Nat))] = wkV n [] from rfl]
    generalize upd H1 d (.dK (wkV n [])) = H2 at s2 hd2 hA2 ⊢
    walk_at "rd"
    show spPool K _ _ _ _
    unfold spPool
    refine ⟨rfl, fun pl npl => ?_⟩
    have s3 := same_new npl (o := .tup (POOL.map V.str))
    have hpl := upd_same (H := H2) (a := pl) (o := .tup (POOL.map V.str))
    have hA3 := src_same hA2 s3
    have hd3 := s3 _ _ hd2
    have s03 : SameBut src H _ := s1.trans (Bx.Same.but (s2.trans s3))
    generalize upd H2 pl (.tup (POOL.map V.str)) = H3 at s3 hpl hA3 hd3 s03 ⊢
    refine ⟨pl, rfl, ⟨_, sqt hpl⟩, for_it (walk_tup (K := K) (a := pl) (xs := POOL.map V.str)) (fun i σ H' => ∃ (o3 o4 o5 : Option V) (ws : Wd), σ = [some (.ref src), some (.int (n : Nat)), some (.ref d), o3, o4, o5] ∧ SameBut src H H' ∧ Src H' src ∧ SqT K H' pl (POOL.map V.str) ∧ H' d = some (.dK (wkV n ws)) ∧ ws.map (·.1) = POOL.take i ∧ ∀ p ∈ ws, Wt n p.2)
      ⟨none, none, none, [], rfl, s03, hA3, sqt hpl, hd3, rfl, fun p hp => (by cases hp)⟩ (fun i σ H' _ ⟨_, _, _, _, _, _, _, h, _⟩ => h) ?_ ?_⟩
    · rintro i x σ H4a H4 hi ⟨o3, o4, o5, ws, rfl, s4, hA4, hpl4, hd4, key, wok⟩ ⟨rfl, hx⟩
      obtain ⟨z, hz, rfl⟩ := at_map hx
      have zp := List.mem_of_getElem? hz
      walk_at "rd"
      refine ⟨by omega, by omega, for_it walk_range (fun j σ H' => ∃ (o5 : Option V) (t : Str), σ = [some (.ref src), some (.int (n : Nat)), some (.ref d), some (.str z), some (.str t), o5] ∧ SameBut src H4 H' ∧ Src H' src ∧ Wt j t) ⟨o5, emp, rfl, SameBut.refl _ _, hA4, ⟨rfl, fun c hc => (by cases hc)⟩⟩ (fun _ _ _ _ _ => trivial) ?_ ?_⟩
      · rintro j x σ H5a H5 hj ⟨o5, t, rfl, s5, hA5, wt⟩ ⟨rfl, rfl⟩
        walk_at "rd"
        refine draw_of (lim := 2) hA5 (by decide) fun r H6 r0 r1 s6 hA6 => ?_
        obtain ⟨b, rfl⟩ := Int.eq_ofNat_of_zero_le r0
        have b2 : b = 0 ∨ b = 1 := by omega
        refine ⟨_, _, 97 + b, rfl, rfl, sz (by decide), ?_, ?_⟩
        · refine atI_nat ?_
          rcases b2 with rfl | rfl <;> decide +kernel
        refine ⟨t, ⟨#[97 + b]⟩, rfl, rfl, sz (by rw [wt.1]; show j + 1 ≤ 100000; omega), ?_⟩
        exact ⟨_, _, rfl, s5.trans s6, hA6, wt.snoc (by omega)⟩
      · rintro σ H5 ⟨o5, t, rfl, s5, hA5, wt⟩
        rw [Int.toNat_natCast] at wt
        have hd5 := s5 _ _ nds.symm hd4
        have hi4 : i < POOL.length := by rw [List.length_map] at hi; exact hi
        have wl : ws.length ≤ 4 := by
          have e := congrArg List.length key
          rw [List.length_map] at e
          have := List.length_take_le' i POOL
          have e4 : POOL.length = 4 := rfl
          omega
        walk_at "rd"
        refine ⟨d, _, rfl, DPut.k (k := .inr z) hd5 (by show ((.inr emp, .int (n : Nat)) :: ws.map _ : List (Key × V)).length < sizeLine; rw [List.length_cons, List.length_map]; exact szl (by omega)), ?_⟩
        have nz : z ∉ ws.map (·.1) := by
          rw [key]
          intro hm
          obtain ⟨j, hj⟩ := List.mem_iff_getElem?.mp hm
          rw [List.getElem?_take] at hj
          split at hj
          · rename_i hlt
            obtain ⟨h1', e1'⟩ := List.getElem?_eq_some_iff.mp hz
            obtain ⟨h2', e2'⟩ := List.getElem?_eq_some_iff.mp hj
            exact (List.pairwise_iff_getElem.mp (asc_nodup pool_asc1) j i h2' h1' hlt) (e2'.trans e1'.symm)
          · cases hj
        have ep : putK (wkV n ws) (.inr z) (.str t) = wkV n (ws ++ [(z, t)]) := by
          rw [put_new fun kv hk => ?_]
          · unfold wkV
            rw [List.map_append]
            rfl
          · rcases List.mem_cons.mp hk with e | hk
            · rw [e]
              exact fun z2 => pool_ne z zp (Sum.inr.inj z2).symm
            · obtain ⟨p, hp, rfl⟩ := List.mem_map.mp hk
              exact fun z2 => nz (List.mem_map.mpr ⟨p, hp, Sum.inr.inj z2⟩)
        rw [ep]
        have hpl5 : SqT K (upd H5 d (.dK (wkV n (ws ++ [(z, t)])))) pl (POOL.map V.str) := by
          rcases sqt_but hA4 s5 hpl4 with (h | ⟨u, h⟩) | h
          · exact .inl (.inl (by rw [upd_ne fun e => by rw [e, hd5] at h; cases h]; exact h))
          · exact .inl (.inr ⟨u, by rw [upd_ne fun e => by rw [e, hd5] at h; cases h]; exact h⟩)
          · exact .inr h
        refine ⟨_, _, _, ws ++ [(z, t)], rfl, but_at nd0 (s4.trans s5), src_upd hA5 nds, hpl5, upd_same, ?_, fun p hp => ?_⟩
        · rw [List.map_append, key, List.take_add_one, hz]
          rfl
        · rcases List.mem_append.mp hp with h | h
          · exact wok p h
          · rw [List.mem_singleton.mp h]
            exact wt
    · rintro σ H4 ⟨o3, o4, o5, ws, rfl, s4, hA4, hpl4, hd4, key, wok⟩
      rw [List.length_map, List.take_length] at key
      walk_at "rd"
      exact q d n ws H4 s4 hA4 hd4 ⟨key, fun p hp => (wok p hp).1, fun p hp => (wok p hp).ok, by omega⟩
end
end K36
namespace K36
local macro_rules | `(tactic| walk_at "rd") => `(tactic| repeat (first | refine ⟨rfl, ?_⟩ | refine ⟨_, rfl, ?_⟩ | refine ⟨_, _, rfl, rfl, ?_⟩ | refine ⟨⟨_, rfl⟩, ?_⟩))
open PySem PySem.Spec PyProof.Rows L2 Bx TL Dx Zx Ow Sup NdefX Px
/-! ### a table of new names -/
theorem nodup_le : ∀ (ms ys : List Str), ms.Nodup → (∀ x, x ∈ ms → x ∈ ys) → ms.length ≤ ys.length := by
  intro l
  induction l with
  | nil => exact fun m _ _ => Nat.zero_le _
  | cons x l ih =>
    intro m nd sub
    obtain ⟨n1, n2⟩ := List.nodup_cons.mp nd
    have hx := sub x (List.mem_cons_self ..)
    have z := ih (m.erase x) n2 fun y hy => (List.mem_erase_of_ne fun e => n1 (by rw [← e]; exact hy)).mpr (sub y (List.mem_cons_of_mem _ hy))
    rw [List.length_erase_of_mem hx] at z
    have hp : 0 < m.length := List.length_pos_of_mem hx
    rw [List.length_cons]
    omega
def FREE : List Str := [Str.ofString "a", Str.ofString "b", Str.ofString "b.x", Str.ofString "b1", Str.ofString "c", Str.ofString "q9", Str.ofString "y.y", Str.ofString "zz"]
def OTH : List Str := [Str.ofString "b", Str.ofString "c", Str.ofString "q9", Str.ofString "y.y"]
def free0 (ns : List Str) : List Str := FREE.filter fun z => decide (z ∈ ns) || !decide (z ∈ POOL)
theorem free_nd : FREE.Nodup := of_decide_eq_true (p := FREE.Pairwise fun x y => x ≠ y) (by decide +kernel)
theorem free_ok : ∀ z ∈ FREE, PyData.strOk z = true := by decide +kernel
theorem oth_all : (∀ z ∈ OTH, z ∈ FREE ∧ z ∉ POOL) ∧ OTH.Nodup := ⟨by decide +kernel, of_decide_eq_true (p := OTH.Pairwise fun x y => x ≠ y) (by decide +kernel)⟩
theorem pool_free : ∀ z ∈ POOL, z ∈ FREE := by decide +kernel
theorem free0_len {ns : List Str} (sub : ns.Sublist POOL) : ns.length + 4 ≤ (free0 ns).length := by
  have nd : (ns ++ OTH).Nodup := List.nodup_append.mpr ⟨(asc_nodup pool_asc1).sublist sub, oth_all.2, fun a ha b hb e => (oth_all.1 b hb).2 (e ▸ sub.subset ha)⟩
  have z := nodup_le (ns ++ OTH) (free0 ns) nd fun x hx => List.mem_filter.mpr (by
    rcases List.mem_append.mp hx with h | h
    · exact ⟨pool_free x (sub.subset h), by rw [decide_eq_true h]; rfl⟩
    · exact ⟨(oth_all.1 x h).1, by rw [decide_eq_false (oth_all.1 x h).2, Bool.not_false, Bool.or_true]⟩)
  rw [List.length_append] at z
  exact z
theorem drop_len {fs : List Str} (nd : fs.Nodup) (v : Str) : fs.length ≤ (fs.filter fun y => !decide (y = v)).length + 1 := by
  refine nodup_le fs (v :: fs.filter fun y => !decide (y = v)) nd fun x hx => ?_
  by_cases e : x = v
  · rw [e]
    exact List.mem_cons_self ..
  · exact List.mem_cons_of_mem _ (List.mem_filter.mpr ⟨hx, by rw [decide_eq_false e]; rfl⟩)
/-- the table so far, what is free -/
structure TbI (ns : List Str) (i : Nat) (t : Tb) (fs : List Str) : Prop where
  key : t.map (·.1) = ns.take i
  nd : fs.Nodup
  sub : ∀ y ∈ fs, y ∈ free0 ns
  len : ns.length + 4 ≤ fs.length + i
  val : ∀ p ∈ t, p.2 ∈ free0 ns ∧ p.2 ∉ fs
  vnd : (t.map (·.2)).Nodup
theorem TbI.step {ns : List Str} {i : Nat} {t : Tb} {fs : List Str} (h : TbI ns i t fs) {z v : Str} (hz : ns[i]? = some z) (hv : v ∈ fs) : TbI ns (i + 1) (t ++ [(z, v)]) (fs.filter fun y => !decide (y = v)) := by
  refine ⟨?_, h.nd.filter _, fun y hy => h.sub y (List.mem_filter.mp hy).1, ?_, fun p hp => ?_, ?_⟩
  · rw [List.map_append, h.key, List.take_add_one, hz]
    rfl
  · have := drop_len h.nd v
    have := h.len
    omega
  · rcases List.mem_append.mp hp with k | k
    · exact ⟨(h.val p k).1, fun m => (h.val p k).2 (List.mem_filter.mp m).1⟩
    · rw [List.mem_singleton.mp k]
      refine ⟨h.sub v hv, fun m => ?_⟩
      have z2 := (List.mem_filter.mp m).2
      simp at z2
  · rw [List.map_append]
    refine List.nodup_append.mpr ⟨h.vnd, List.pairwise_singleton _ _, fun a ha b hb e => ?_⟩
    obtain ⟨p, hp, rfl⟩ := List.mem_map.mp ha
    have e2 : b = v := List.mem_singleton.mp hb
    exact (h.val p hp).2 (by rw [e, e2]; exact hv)
theorem rn_key : ∀ {t : Tb} {z : Str}, z ∈ t.map (·.1) → (z, rn t z) ∈ t
  | p :: r, z, h => by
    unfold rn
    by_cases e : p.1 = z
    · rw [List.find?_cons, decide_eq_true e]
      rw [← e]
      exact List.mem_cons_self ..
    · rw [List.find?_cons, decide_eq_false e]
      exact List.mem_cons_of_mem _ (rn_key (List.mem_of_ne_of_mem (fun z => e z.symm) h))
theorem rn_out {t : Tb} {z : Str} (h : z ∉ t.map (·.1)) : rn t z = z := by
  unfold rn
  cases e : t.find? fun p => decide (p.1 = z) with
  | none => rfl
  | some p =>
    have h1 := List.mem_of_find?_eq_some e
    have h2 := List.find?_some e
    exact absurd (List.mem_map.mpr ⟨p, h1, of_decide_eq_true h2⟩) h
theorem inj_val : ∀ {t : Tb} {p q : Str × Str}, (t.map (·.2)).Nodup → p ∈ t → q ∈ t → p.2 = q.2 → p = q
  | a :: r, p, q, nd, hp, hq, e => by
    obtain ⟨n1, n2⟩ := List.nodup_cons.mp nd
    rcases List.mem_cons.mp hp with hp | hp <;> rcases List.mem_cons.mp hq with hq | hq
    · rw [hp, hq]
    · exact absurd (List.mem_map.mpr ⟨q, hq, by rw [← e, hp]⟩) n1
    · exact absurd (List.mem_map.mpr ⟨p, hp, by rw [e, hq]⟩) n1
    · exact inj_val n2 hp hq e
theorem TbI.ok {ns : List Str} {t : Tb} {fs : List Str} (sub : ns.Sublist POOL) (h : TbI ns ns.length t fs) : TbOk t := by
  have key : t.map (·.1) = ns := by rw [h.key, List.take_length]
  refine ⟨by rw [key]; exact sub, ?_, fun z hz => ?_⟩
  · refine List.pairwise_map.mpr (List.Pairwise.imp_of_mem (fun {x y} hx hy hne e => ?_) (asc_nodup pool_asc1))
    have out : ∀ a ∈ POOL, a ∉ ns → ∀ b ∈ ns, rn t b ≠ a := fun a ha na b hb e2 => by
      have m := (h.val _ (rn_key (t := t) (z := b) (by rw [key]; exact hb))).1
      rw [e2] at m
      have m2 := (List.mem_filter.mp m).2
      rw [decide_eq_false na, decide_eq_true ha] at m2
      cases m2
    by_cases cx : x ∈ ns <;> by_cases cy : y ∈ ns
    · have e3 := inj_val h.vnd (rn_key (t := t) (z := x) (by rw [key]; exact cx)) (rn_key (t := t) (z := y) (by rw [key]; exact cy)) e
      exact hne (congrArg (·.1) e3)
    · rw [rn_out (t := t) (z := y) (by rw [key]; exact cy)] at e
      exact out y hy cy x cx e
    · rw [rn_out (t := t) (z := x) (by rw [key]; exact cx)] at e
      exact out x hx cx y cy e.symm
    · rw [rn_out (t := t) (z := x) (by rw [key]; exact cx), rn_out (t := t) (z := y) (by rw [key]; exact cy)] at e
      exact hne e
  · by_cases c : z ∈ ns
    · have m := (h.val _ (rn_key (t := t) (z := z) (by rw [key]; exact c))).1
      exact free_ok _ (List.mem_filter.mp m).1
    · rw [rn_out (t := t) (z := z) (by rw [key]; exact c)]
      exact pool_ok z hz
theorem dec_str (a b : Str) : decide (V.str a = V.str b) = decide (a = b) := decide_eq_decide.mpr ⟨fun z => V.str.inj z, fun z => congrArg V.str z⟩
theorem rn_new {t : Tb} {z v : Str} (h : z ∉ t.map (·.1)) : rn (t ++ [(z, v)]) z = v := by
  have m := rn_key (t := t ++ [(z, v)]) (z := z) (by rw [List.map_append]; exact List.mem_append_right _ (List.mem_singleton.mpr rfl))
  rcases List.mem_append.mp m with k | k
  · exact absurd (List.mem_map.mpr ⟨_, k, rfl⟩) h
  · exact congrArg (·.2) (List.mem_singleton.mp k)
theorem put_tb {t : Tb} {z v : Str} (h : z ∉ t.map (·.1)) : putK (tbV t) (.inr z) (.str v) = tbV (t ++ [(z, v)]) := by
  rw [put_new fun kv hk => ?_]
  · unfold tbV
    rw [List.map_append]
    rfl
  · obtain ⟨p, hp, rfl⟩ := List.mem_map.mp hk
    exact fun z2 => h (List.mem_map.mpr ⟨p, hp, Sum.inr.inj z2⟩)
section
variable {P : Program} {w : World} {K : PySem.W.Frag} {mg : Str → Option Value} {base : Heap}
@[irreducible] def spTab (K : PySem.W.Frag) : Sp := fun vs H Q _ => ∃ s : Addr, vs = [.ref s] ∧ Src H s ∧ ∀ (d : Addr) (t : Tb) (H' : Hp), SameBut s H H' → Src H' s → H' d = some (.dK (tbV t)) → TbOk t → Q (.ref d) H'
set_option maxHeartbeats 4000000 in
theorem ok_table {f : Addr} {fd : FuncData} (F : Fun K "_law_table" "_law_table" s__law_table f fd) (m_len : mg "len" = none) (C__law_draw : CDraw P w K mg base) (C__law_pool : Cal P w K mg base "_law_pool" 1 [] (spPool K)) : FnOk P w K mg base CX0 2 f fd ["_law_source_here"] (spTab K) := by
  refine F.ok sc__law_table (fun vs H Q E h => ?_) (fun cdv A outer s H vs Q E hr h => ?_)
  · unfold spTab at h
    obtain ⟨s, rfl, _⟩ := h
    rfl
  · unfold spTab at h
    obtain ⟨src, rfl, hA, q⟩ := h
    have hu := hu_of hr
    refine ⟨_, (pss_cons (ps_set (i := 1) sc__law_table.nd rfl (Or.inr rfl) pe_dnewK)
    (pss_cons (ps_set (i := 2) sc__law_table.nd rfl (Or.inl rfl) (pe_lst (pa_cons pe_str (pa_cons pe_str (pa_cons pe_str (pa_cons pe_str (pa_cons pe_str (pa_cons pe_str (pa_cons pe_str (pa_cons pe_str pa_nil))))))))))
    (pss_cons (ps_set (i := 3) sc__law_table.nd rfl (Or.inr rfl) (pe_lc (own := [("_law_name", 4)]) rfl sc__law_table.nd (pi_tup (pe_cal0 C__law_pool (hr.mono (by decide)))) (blkOk_by (N := n__law_table) (sc := defScope s__law_table) (by decide +kernel)) (fun _ _ _ _ _ => pg_name (i := 4) sc__law_table.nd rfl (Or.inl rfl)) (fun _ _ _ _ _ => pts_one (pt_cmpR op_gt (pe_cal C__law_draw (hr.mono (by decide)) (pa_cons (pv 0) (pa_cons pe_int pa_nil))) pe_int (nomark _))) (fun _ _ _ _ _ => (pv 4))))
    (pss_cons (ps_setLc (i := 2) (own := [("_law_name", 4)]) rfl sc__law_table.nd rfl rfl (sw_true rfl rfl rfl (by decide +kernel)) (pi_list (pv 2)) (blkOk_by (N := n__law_table) (sc := defScope s__law_table) (by decide +kernel)) (fun _ _ _ _ _ => pg_name (i := 4) sc__law_table.nd rfl (Or.inl rfl)) (fun _ _ _ _ _ => pts_one (PW.pt (pw_or (pt_cmpR (op_in_seqK (K := K) rfl) (pv 4) (pv 3) (by rfl)) (pw_or1 (pt_cmpR (op_notIn_seqK (K := K) rfl) (pv 4) (pe_cal0 C__law_pool (hr.mono (by decide))) (by rfl)))))) (fun _ _ _ _ _ => (pv 4)))
    (pss_cons (ps_for PassesOwn.never rfl (pi_list (pv 3)) (pg_name (i := 4) sc__law_table.nd rfl (Or.inr rfl))
      (pss_cons (ps_setLc (i := 5) (own := [("_law_other", 6)]) rfl sc__law_table.nd rfl rfl (sw_true rfl rfl rfl (by decide +kernel)) (pi_list (pv 2)) (blkOk_by (N := n__law_table) (sc := defScope s__law_table) (by decide +kernel)) (fun _ _ _ _ _ => pg_name (i := 6) sc__law_table.nd rfl (Or.inl rfl)) (fun _ _ _ _ _ => pts_one (pt_cmpR op_ne (pv 6) (pv 4) (nomark _))) (fun _ _ _ _ _ => (pv 6)))
    (pss_cons (ps_dput hu (pv 1) (pv 4) (pe_ix ix_list (pv 5) (pe_cal C__law_draw (hr.mono (by decide)) (pa_cons (pv 0) (pa_cons (pe_callB call_len_seq (by rfl) m_len PySem.boot_len (pa_cons (pv 5) pa_nil)) pa_nil))) (fun _ _ => rfl)) rfl)
    (pss_one (ps_setLc (i := 2) (own := [("_law_other", 6)]) rfl sc__law_table.nd rfl rfl (sw_true rfl rfl rfl (by decide +kernel)) (pi_list (pv 2)) (blkOk_by (N := n__law_table) (sc := defScope s__law_table) (by decide +kernel)) (fun _ _ _ _ _ => pg_name (i := 6) sc__law_table.nd rfl (Or.inl rfl)) (fun _ _ _ _ _ => pts_one (pt_cmpR op_ne (pv 6) (pe_dget hu (pv 1) (pv 4) (fun _ _ => rfl)) (nomark _))) (fun _ _ _ _ _ => (pv 6)))))))
    (pss_one (ps_ret (pv 1)))))))), ?_⟩
    walk_at "rd"
    refine fun d nd => ?_
    have nds := src_ne hA nd
    have s1 := same_new nd (o := .dK [])
    have hd1 := upd_same (H := H) (a := d) (o := .dK [])
    have hA1 := src_same hA s1
    generalize upd H d (.dK []) = H1 at s1 hd1 hA1 ⊢
    walk_at "rd"
    refine ⟨sz (by show 8 ≤ 100000; decide), fun F0 nF0 => ?_⟩
    have s2 := same_new nF0 (o := .lst (FREE.map V.str))
    have hF2 := upd_same (H := H1) (a := F0) (o := .lst (FREE.map V.str))
    have hA2 := src_same hA1 s2
    have hd2 := s2 _ _ hd1
    show tSeq _ _ _ _ (upd H1 F0 (.lst (FREE.map V.str)))
    generalize upd H1 F0 (.lst (FREE.map V.str)) = H2 at s2 hF2 hA2 hd2 ⊢
    have s02 := s1.trans s2
    walk_at "rd"
    show spPool K _ _ _ _
    unfold spPool
    refine ⟨rfl, fun pl npl => ?_⟩
    have s3 := same_new npl (o := .tup (POOL.map V.str))
    have hpl := upd_same (H := H2) (a := pl) (o := .tup (POOL.map V.str))
    have hA3 := src_same hA2 s3
    have hF3 := s3 _ _ hF2
    have hd3 := s3 _ _ hd2
    have s03 := s02.trans s3
    generalize upd H2 pl (.tup (POOL.map V.str)) = H3 at s3 hpl hA3 hF3 hd3 s03 ⊢
    refine ⟨pl, rfl, ⟨_, sqt hpl⟩, fun Rn nRn => ?_⟩
    have nRs := src_ne hA3 nRn
    refine lc_it walk_tup (fun i H' => SameBut src H3 H' ∧ Src H' src ∧ ∃ ms : List Str, H' Rn = some (.lst (ms.map V.str)) ∧ ms.Sublist (POOL.take i)) ⟨Bx.Same.but (same_new nRn), src_upd hA3 nRs, [], upd_same, List.nil_sublist _⟩ (fun i H' _ h => sqt_but hA3 h.1 (sqt hpl)) ?_ ?_
    · rintro i v H4a H4 hi ⟨s4, hA4, ms, hM, sub⟩ ⟨rfl, hx⟩
      obtain ⟨z, hz, rfl⟩ := at_map hx
      refine ⟨rfl, ?_⟩
      walk_at "rd"
      refine draw_of (lim := 3) hA4 (by decide) fun r H5 _ _ s5 hA5 => ?_
      have hM5 := s5 _ _ nRs.symm hM
      walk_at "rd"
      refine ite2 (fun _ => ?_) (fun _ => ⟨s4.trans s5, hA5, ms, hM5, sub_skip sub⟩)
      walk_at "rd"
      refine ⟨_, hM5, szl (by rw [List.length_map]; exact Nat.lt_of_le_of_lt (Nat.le_trans sub.length_le (List.length_take_le' i POOL)) (by decide)), but_at nRn (s4.trans s5), src_upd hA5 nRs, ms ++ [z], by rw [upd_same, List.map_append]; rfl, sub_snoc sub hz⟩
    rintro H4 ⟨s4, hA4, ns, hR4, sub0⟩
    have sub : ns.Sublist POOL := by
      rw [List.length_map, List.take_length] at sub0
      exact sub0
    have nl : ns.length ≤ 4 := sub.length_le
    have nF0s : F0 ≠ src := (src_ne hA1 nF0).symm
    have hF4 := s4 _ _ nF0s hF3
    have hd4 := s4 _ _ nds.symm hd3
    have s04 : SameBut src H H4 := (Bx.Same.but s03).trans s4
    walk_at "rd"
    refine ⟨⟨_, sq hF4⟩, fun D hD => ?_⟩
    refine lc_it walk_list (fun i H' => Same H4 H' ∧ H' D = some (.lst (((FREE.take i).filter fun z => decide (z ∈ ns) || !decide (z ∈ POOL)).map V.str))) ⟨same_new hD, upd_same⟩ (fun i H' _ h => sq (h.1 _ _ hF4)) ?_ ?_
    · rintro i v H5a H5 hi ⟨s5, hM⟩ ⟨rfl, hx⟩
      obtain ⟨z, hz, rfl⟩ := at_map hx
      have fl8 : ((FREE.take i).filter fun z => decide (z ∈ ns) || !decide (z ∈ POOL)).length ≤ 8 := Nat.le_trans (List.length_filter_le _ _) (List.length_take_le' i FREE)
      have stepT : ∀ H6, Same H5 H6 → (decide (z ∈ ns) || !decide (z ∈ POOL)) = true → ∃ acc, H6 D = some (.lst acc) ∧ acc.length < sizeLine ∧ Same H4 (upd H6 D (.lst (acc ++ [.str z]))) ∧ (upd H6 D (.lst (acc ++ [.str z]))) D = some (.lst (((FREE.take (i + 1)).filter fun z => decide (z ∈ ns) || !decide (z ∈ POOL)).map V.str)) := fun H6 s6 e => by
        refine ⟨_, s6 _ _ hM, szl (by rw [List.length_map]; omega), same_at hD (s5.trans s6), ?_⟩
        rw [upd_same, List.take_add_one, hz, List.filter_append, Option.toList_some, List.filter_cons, if_pos e, List.filter_nil, List.map_append]
        rfl
      have stepF : ∀ H6, Same H5 H6 → (decide (z ∈ ns) || !decide (z ∈ POOL)) = false → Same H4 H6 ∧ H6 D = some (.lst (((FREE.take (i + 1)).filter fun z => decide (z ∈ ns) || !decide (z ∈ POOL)).map V.str)) := fun H6 s6 e => by
        refine ⟨s5.trans s6, ?_⟩
        rw [List.take_add_one, hz, List.filter_append, Option.toList_some, List.filter_cons, if_neg (by rw [e]; exact Bool.false_ne_true), List.filter_nil, List.append_nil]
        exact s6 _ _ hM
      refine ⟨rfl, ?_⟩
      walk_at "rd"
      refine ⟨Rn, _, rfl, .inl (sq (s5 _ _ hR4)), rfl, Bx.flat_all ns, ?_⟩
      rw [Bx.inV_str]
      cases h1 : decide (z ∈ ns) with
      | true =>
        walk_at "rd"
        exact stepT H5 (Same.refl _) (by rw [h1]; rfl)
      | false =>
        walk_at "rd"
        refine fun pl2 npl2 => ?_
        have s6 := same_new npl2 (o := .tup (POOL.map V.str))
        have hp2 := upd_same (H := H5) (a := pl2) (o := .tup (POOL.map V.str))
        generalize upd H5 pl2 (.tup (POOL.map V.str)) = H6 at s6 hp2 ⊢
        refine ⟨pl2, _, rfl, .inr (sqt hp2), rfl, Bx.flat_all POOL, ?_⟩
        rw [Bx.inV_str]
        cases h2 : decide (z ∈ POOL) with
        | true =>
          walk_at "rd"
          exact stepF H6 s6 (by rw [h1, h2]; rfl)
        | false =>
          walk_at "rd"
          exact stepT H6 s6 (by rw [h1, h2]; rfl)
    rintro H5 ⟨s5, hD5⟩
    rw [List.length_map, List.take_length] at hD5
    have hR5 := s5 _ _ hR4
    have hd5 := s5 _ _ hd4
    have hA5 := src_same hA4 s5
    have s05 := s04.trans (Bx.Same.but s5)
    have nDs : D ≠ src := (src_ne hA4 hD).symm
    have nd0 : H d = none := nd
    have hfs : free0 ns = FREE.filter fun z => decide (z ∈ ns) || !decide (z ∈ POOL) := rfl
    rw [← hfs] at hD5
    have f8 : (free0 ns).length ≤ 8 := List.length_filter_le _ _
    walk_at "rd"
    refine ⟨⟨_, sq hR5⟩, for_it walk_list (fun i σ H' => ∃ (o4 o5 : Option V) (Fa : Addr) (t : Tb) (fs : List Str), σ = [some (.ref src), some (.ref d), some (.ref Fa), some (.ref Rn), o4, o5, none] ∧ SameBut src H H' ∧ Src H' src ∧ H' d = some (.dK (tbV t)) ∧ H' Fa = some (.lst (fs.map V.str)) ∧ H' Rn = some (.lst (ns.map V.str)) ∧ Fa ≠ src ∧ TbI ns i t fs)
      ⟨none, none, D, [], free0 ns, rfl, s05, hA5, hd5, hD5, hR5, nDs, ⟨rfl, free_nd.filter _, fun y hy => hy, free0_len sub, (fun p hp => by cases hp), List.Pairwise.nil⟩⟩ (fun i σ H' _ ⟨_, _, _, _, _, _, _, _, _, _, h, _⟩ => sq h) ?_ ?_⟩
    · rintro i x σ H6a H6 hi ⟨o4, o5, Fa, t, fs, rfl, s6, hA6, hd6, hF6, hR6, nFs, ti⟩ ⟨rfl, hx⟩
      obtain ⟨z, hz, rfl⟩ := at_map hx
      have hi2 : i < ns.length := by rw [List.length_map] at hi; exact hi
      have fl8 : fs.length ≤ 8 := Nat.le_trans (nodup_le fs (free0 ns) ti.nd ti.sub) f8
      walk_at "rd"
      refine ⟨⟨_, sq hF6⟩, fun C nC => ?_⟩
      refine lc_it walk_list (fun j H' => H' = upd H6 C (.lst (((fs.take j).filter fun y => !decide (y = z)).map V.str))) rfl (fun j H' _ e => e ▸ sq (same_new nC _ _ hF6)) ?_ ?_
      · rintro j v H8a H8 hj rfl ⟨rfl, hx8⟩
        obtain ⟨y, hy, rfl⟩ := at_map hx8
        have fl : ((fs.take j).filter fun y => !decide (y = z)).length ≤ 8 := Nat.le_trans (List.length_filter_le _ _) (Nat.le_trans (List.length_take_le' j fs) fl8)
        refine ⟨rfl, ?_⟩
        walk_at "rd"
        rw [dec_str]
        cases h1 : decide (y = z) with
        | true =>
          have h2 : (!decide (y = z)) = false := by rw [h1]; rfl
          show upd H6 C _ = upd H6 C _
          rw [List.take_add_one, hy, List.filter_append, Option.toList_some, List.filter_cons, h2, if_neg Bool.false_ne_true, List.filter_nil, List.append_nil]
        | false =>
          have h2 : (!decide (y = z)) = true := by rw [h1]; rfl
          walk_at "rd"
          refine ⟨_, upd_same, szl (by rw [List.length_map]; omega), ?_⟩
          rw [upd_upd, List.take_add_one, hy, List.filter_append, Option.toList_some, List.filter_cons, h2, if_pos rfl, List.filter_nil, List.map_append]
          rfl
      rintro H8 rfl
      rw [List.length_map, List.take_length]
      have s7 := same_new nC (o := .lst ((fs.filter fun y => !decide (y = z)).map V.str))
      have hC := upd_same (H := H6) (a := C) (o := .lst ((fs.filter fun y => !decide (y = z)).map V.str))
      generalize upd H6 C (.lst ((fs.filter fun y => !decide (y = z)).map V.str)) = H7 at s7 hC ⊢
      have nz : z ∉ t.map (·.1) := by
        rw [ti.key]
        intro hm
        obtain ⟨j, hj⟩ := List.mem_iff_getElem?.mp hm
        rw [List.getElem?_take] at hj
        split at hj
        · rename_i hlt
          obtain ⟨h1', e1'⟩ := List.getElem?_eq_some_iff.mp hz
          obtain ⟨h2', e2'⟩ := List.getElem?_eq_some_iff.mp hj
          exact (List.pairwise_iff_getElem.mp ((asc_nodup pool_asc1).sublist sub) j i h2' h1' hlt) (e2'.trans e1'.symm)
        · cases hj
      have clen : 1 ≤ (fs.filter fun y => !decide (y = z)).length := by
        have := drop_len ti.nd z
        have := ti.len
        omega
      have cl8 : (fs.filter fun y => !decide (y = z)).length ≤ 8 := Nat.le_trans (List.length_filter_le _ _) fl8
      have csub : ∀ y ∈ fs.filter (fun y => !decide (y = z)), y ∈ fs := fun y hy => (List.mem_filter.mp hy).1
      generalize (fs.filter fun y => !decide (y = z)) = cs at hC clen cl8 csub
      have hA7 := src_same hA6 s7
      have Cs : C ≠ src := (src_ne hA6 nC).symm
      walk_at "rd"
      refine ⟨C, _, rfl, .inl (sq hC), ?_⟩
      rw [List.length_map]
      refine draw_of (lim := ((cs.length : Nat) : Int)) hA7 ⟨by omega, by omega⟩ fun r H8 r0 r1 s8 hA8 => ?_
      obtain ⟨b, rfl⟩ := Int.eq_ofNat_of_zero_le r0
      have hb : b < cs.length := by omega
      have hvm := csub _ (List.getElem_mem hb)
      refine ⟨_, _, _, _, rfl, rfl, sq (s8 _ _ Cs hC), atI_nat (j := b) (v := .str cs[b]) (by rw [List.getElem?_map, List.getElem?_eq_getElem hb]; rfl), ?_⟩
      generalize cs[b] = v at hvm
      have hd8 := s8 _ _ nds.symm (s7 _ _ hd6)
      have tl4 : t.length ≤ 4 := by
        have e := congrArg List.length ti.key
        rw [List.length_map] at e
        have := List.length_take_le' i ns
        omega
      walk_at "rd"
      refine ⟨d, _, rfl, DPut.k (k := .inr z) hd8 (by unfold tbV; rw [List.length_map]; exact szl (by omega)), ?_⟩
      rw [put_tb nz]
      have ti2 := ti.step hz hvm
      have dF : Fa ≠ d := fun e => by
        rw [e, hd6] at hF6
        cases hF6
      have dR : Rn ≠ d := fun e => by
        rw [e, hd6] at hR6
        cases hR6
      have hRs : Rn ≠ src := nRs.symm
      have s09 : SameBut src H (upd H8 d (.dK (tbV (t ++ [(z, v)])))) := but_at nd0 (s6.trans ((Bx.Same.but s7).trans s8))
      have hA9 := src_upd (u := .dK (tbV (t ++ [(z, v)]))) hA8 nds
      have hd9 := upd_same (H := H8) (a := d) (o := .dK (tbV (t ++ [(z, v)])))
      have hF9 : (upd H8 d (.dK (tbV (t ++ [(z, v)])))) Fa = some (.lst (fs.map V.str)) := by
        rw [upd_ne dF]
        exact s8 _ _ nFs (s7 _ _ hF6)
      have hR9 : (upd H8 d (.dK (tbV (t ++ [(z, v)])))) Rn = some (.lst (ns.map V.str)) := by
        rw [upd_ne dR]
        exact s8 _ _ hRs (s7 _ _ hR6)
      have vat : valV (tbV (t ++ [(z, v)])) (.inr z) = some (.str v) := by
        have e := has_tb (l := t ++ [(z, v)]) (z := z) (by rw [List.map_append]; exact List.mem_append_right _ (List.mem_singleton.mpr rfl))
        rw [rn_new nz] at e
        exact e
      generalize upd H8 d (.dK (tbV (t ++ [(z, v)]))) = H9 at s09 hA9 hd9 hF9 hR9 ⊢
      walk_at "rd"
      refine ⟨⟨_, sq hF9⟩, fun G nG => ?_⟩
      refine lc_it walk_list (fun j H' => H' = upd H9 G (.lst (((fs.take j).filter fun y => !decide (y = v)).map V.str))) rfl (fun j H' _ e => e ▸ sq (same_new nG _ _ hF9)) ?_ ?_
      · rintro j v H8a H8 hj rfl ⟨rfl, hx8⟩
        obtain ⟨y, hy, rfl⟩ := at_map hx8
        have fl : ((fs.take j).filter fun y => !decide (y = v)).length ≤ 8 := Nat.le_trans (List.length_filter_le _ _) (Nat.le_trans (List.length_take_le' j fs) fl8)
        refine ⟨rfl, ?_⟩
        walk_at "rd"
        refine ⟨_, V.str v, rfl, by rw [← vat]; exact DGet.k (k := .inr z) (same_new nG _ _ hd9), ?_⟩
        walk_at "rd"
        rw [dec_str]
        cases h1 : decide (y = v) with
        | true =>
          have h2 : (!decide (y = v)) = false := by rw [h1]; rfl
          show upd H9 G _ = upd H9 G _
          rw [List.take_add_one, hy, List.filter_append, Option.toList_some, List.filter_cons, h2, if_neg Bool.false_ne_true, List.filter_nil, List.append_nil]
        | false =>
          have h2 : (!decide (y = v)) = true := by rw [h1]; rfl
          walk_at "rd"
          refine ⟨_, upd_same, szl (by rw [List.length_map]; omega), ?_⟩
          rw [upd_upd, List.take_add_one, hy, List.filter_append, Option.toList_some, List.filter_cons, h2, if_pos rfl, List.filter_nil, List.map_append]
          rfl
      rintro H8 rfl
      rw [List.length_map, List.take_length]
      have s10 := same_new nG (o := .lst ((fs.filter fun y => !decide (y = v)).map V.str))
      have hG := upd_same (H := H9) (a := G) (o := .lst ((fs.filter fun y => !decide (y = v)).map V.str))
      generalize upd H9 G (.lst ((fs.filter fun y => !decide (y = v)).map V.str)) = H10 at s10 hG ⊢
      refine ⟨_, _, G, t ++ [(z, v)], fs.filter fun y => !decide (y = v), rfl, s09.trans (Bx.Same.but s10), src_same hA9 s10, s10 _ _ hd9, hG, s10 _ _ hR9, (src_ne hA9 nG).symm, ti2⟩
    · rintro σ H6 ⟨o4, o5, Fa, t, fs, rfl, s6, hA6, hd6, hF6, hR6, nFs, ti⟩
      rw [List.length_map] at ti
      walk_at "rd"
      exact q d t H6 s6 hA6 hd6 (ti.ok sub)
end
end K36
namespace K36
local macro_rules | `(tactic| walk_at "rd") => `(tactic| repeat (first | refine ⟨rfl, ?_⟩ | refine ⟨_, rfl, ?_⟩ | refine ⟨_, _, rfl, rfl, ?_⟩ | refine ⟨⟨_, rfl⟩, ?_⟩))
open PySem PySem.Spec PyProof.Rows L2 Bx TL Dx Zx Ow Sup NdefX Px
/-! ### spoilt machines -/
structure OkS (ns : List Str) (m : Mc) : Prop where
  sub : ∀ z ∈ m.ns, z ∈ ns
  asc : Asc m.ns
  ne : m.rows ≠ []
  len : m.rows.length = m.ends.length
  e01 : ∀ e ∈ m.ends, e = 0 ∨ e = 1
  row : ∀ r ∈ m.rows, r.length = 2 ^ m.ns.length ∧ ∀ x ∈ r, -1 ≤ x ∧ x < (m.rows.length : Int)
theorem okM_iff {ns : List Str} {m : Mc} : okM ns m = true ↔ OkS ns m := by
  unfold okM
  simp only [Bool.and_eq_true, List.all_eq_true, decide_eq_true_eq, Bool.not_eq_true', decide_eq_false_iff_not, ascB_iff]
  constructor
  · rintro ⟨a, b, c, d, e, f⟩
    refine ⟨a, b, c, d, e, fun r hr => ?_⟩
    have z := f r hr
    unfold okRow at z
    simp only [Bool.and_eq_true, List.all_eq_true, decide_eq_true_eq] at z
    exact z
  · rintro ⟨a, b, c, d, e, f⟩
    refine ⟨a, b, c, d, e, fun r hr => ?_⟩
    unfold okRow
    simp only [Bool.and_eq_true, List.all_eq_true, decide_eq_true_eq]
    exact f r hr
theorem MachOk.okS {m : Mc} (h : MachOk m) {ns : List Str} (sub : ∀ z ∈ m.ns, z ∈ ns) : okM ns m = true := okM_iff.mpr
  ⟨sub, List.Pairwise.sublist h.sub pool_asc1, fun e => (by have := h.ok.rows.1; rw [e] at this; cases this), h.ok.ends.symm, h.e01, h.ok.rows.2⟩
/-- lists in a list, each its own -/
structure RL (src R : Addr) (H0 H : Hp) (us : List V) (rs : List (List Int)) : Prop where
  len : us.length = rs.length
  at_ : ∀ (j : Nat) (r : List Int), rs[j]? = some r → ∃ q, us[j]? = some (.ref q) ∧ H0 q = none ∧ q ≠ src ∧ q ≠ R ∧ H q = some (.lst (r.map V.int))
  inj : ∀ (i j : Nat) (v : V), us[i]? = some v → us[j]? = some v → i = j
theorem RL.keep {src R : Addr} {H0 H H' : Hp} {us : List V} {rs : List (List Int)} (h : RL src R H0 H us rs) (k : ∀ b o, b ≠ src → b ≠ R → H b = some o → H' b = some o) : RL src R H0 H' us rs :=
  ⟨h.len, fun j r hr => by
    obtain ⟨q, a, b, c, d, e⟩ := h.at_ j r hr
    exact ⟨q, a, b, c, d, k _ _ c d e⟩, h.inj⟩
theorem RL.snoc {src R q : Addr} {H0 H : Hp} {us : List V} {rs : List (List Int)} {r : List Int} (h : RL src R H0 H us rs) (n : H0 q = none) (ns : q ≠ src) (nr : q ≠ R) (e : H q = some (.lst (r.map V.int))) (new : ∀ j : Nat, us[j]? ≠ some (V.ref q)) : RL src R H0 H (us ++ [.ref q]) (rs ++ [r]) := by
  refine ⟨by rw [List.length_append, List.length_append, h.len]; rfl, fun j r' hj => ?_, fun i j v hi hj => ?_⟩
  · by_cases c : j < rs.length
    · rw [List.getElem?_append_left c] at hj
      obtain ⟨q', a, b⟩ := h.at_ j r' hj
      exact ⟨q', by rw [List.getElem?_append_left (by rw [h.len]; exact c)]; exact a, b⟩
    · rw [List.getElem?_append_right (by omega)] at hj
      obtain ⟨hj2, _⟩ := List.getElem?_eq_some_iff.mp hj
      have j0 : j = rs.length := by
        simp only [List.length_cons, List.length_nil] at hj2
        omega
      subst j0
      rw [Nat.sub_self] at hj
      cases hj
      exact ⟨q, by rw [← h.len, List.getElem?_append_right (Nat.le_refl _), Nat.sub_self]; rfl, n, ns, nr, e⟩
  · have last : ∀ k, ¬ k < us.length → (us ++ [V.ref q])[k]? = some v → k = us.length ∧ v = .ref q := fun k hk e2 => by
      rw [List.getElem?_append_right (by omega)] at e2
      obtain ⟨hk2, _⟩ := List.getElem?_eq_some_iff.mp e2
      have k0 : k = us.length := by
        simp only [List.length_cons, List.length_nil] at hk2
        omega
      subst k0
      rw [Nat.sub_self] at e2
      cases e2
      exact ⟨rfl, rfl⟩
    by_cases ci : i < us.length <;> by_cases cj : j < us.length
    · rw [List.getElem?_append_left ci] at hi
      rw [List.getElem?_append_left cj] at hj
      exact h.inj i j v hi hj
    · rw [List.getElem?_append_left ci] at hi
      obtain ⟨_, e2⟩ := last j cj hj
      rw [e2] at hi
      exact absurd hi (new i)
    · rw [List.getElem?_append_left cj] at hj
      obtain ⟨_, e2⟩ := last i ci hi
      rw [e2] at hj
      exact absurd hj (new j)
    · rw [(last i ci hi).1, (last j cj hj).1]
/-- one list written -/
theorem RL.write {src R q : Addr} {H0 H : Hp} {us : List V} {rs : List (List Int)} {k : Nat} {r : List Int} (h : RL src R H0 H us rs) (hk : us[k]? = some (.ref q)) (kl : k < rs.length) : RL src R H0 (upd H q (.lst (r.map V.int))) us (rs.set k r) := by
  refine ⟨by rw [List.length_set]; exact h.len, fun j r' hj => ?_, h.inj⟩
  by_cases e : j = k
  · subst e
    rw [List.getElem?_set_self kl] at hj
    cases hj
    obtain ⟨q', a, b, c, d, _⟩ := h.at_ j _ (List.getElem?_eq_getElem kl)
    rw [hk] at a
    cases a
    exact ⟨q, hk, b, c, d, upd_same⟩
  · rw [List.getElem?_set_ne (Ne.symm e)] at hj
    obtain ⟨q', a, b, c, d, e2⟩ := h.at_ j _ hj
    exact ⟨q', a, b, c, d, by rw [upd_ne fun z => e (h.inj j k (V.ref q) (by rw [← z]; exact a) hk)]; exact e2⟩
/-- one list put in another's place -/
theorem RL.put {src R q : Addr} {H0 H H' : Hp} {us : List V} {rs : List (List Int)} {k : Nat} {r : List Int} (h : RL src R H0 H us rs) (kl : k < rs.length) (kp : ∀ b o, b ≠ src → b ≠ R → H b = some o → H' b = some o) (n : H0 q = none) (ns : q ≠ src) (nr : q ≠ R) (e : H' q = some (.lst (r.map V.int))) (new : ∀ j : Nat, us[j]? ≠ some (V.ref q)) : RL src R H0 H' (us.set k (.ref q)) (rs.set k r) := by
  have kl2 : k < us.length := by rw [h.len]; exact kl
  refine ⟨by rw [List.length_set, List.length_set]; exact h.len, fun j r' hj => ?_, fun i j v hi hj => ?_⟩
  · by_cases c : j = k
    · subst c
      rw [List.getElem?_set_self kl] at hj
      cases hj
      exact ⟨q, List.getElem?_set_self kl2, n, ns, nr, e⟩
    · rw [List.getElem?_set_ne (Ne.symm c)] at hj
      obtain ⟨q', a, b, c', d, e2⟩ := h.at_ j _ hj
      exact ⟨q', by rw [List.getElem?_set_ne (Ne.symm c)]; exact a, b, c', d, kp _ _ c' d e2⟩
  · by_cases ci : i = k <;> by_cases cj : j = k
    · rw [ci, cj]
    · rw [ci, List.getElem?_set_self kl2] at hi
      rw [List.getElem?_set_ne (Ne.symm cj)] at hj
      cases hi
      exact absurd hj (new j)
    · rw [cj, List.getElem?_set_self kl2] at hj
      rw [List.getElem?_set_ne (Ne.symm ci)] at hi
      cases hj
      exact absurd hi (new i)
    · rw [List.getElem?_set_ne (Ne.symm ci)] at hi
      rw [List.getElem?_set_ne (Ne.symm cj)] at hj
      exact h.inj i j v hi hj
/-- what is_valid must be told apart -/
structure Bad (m : Mc) : Prop where
  no : okM POOL m = false
  nl : m.ns.length ≤ 20
  ok : ∀ z ∈ m.ns, PyData.strOk z = true
  rl : m.rows.length ≤ 100
  el : m.ends.length ≤ 100
  rr : ∀ r ∈ m.rows, r.length ≤ 100
theorem bad_of {m : Mc} (h : ¬ OkS POOL m) (nl : m.ns.length ≤ 20) (ok : ∀ z ∈ m.ns, PyData.strOk z = true) (rl : m.rows.length ≤ 100) (el : m.ends.length ≤ 100) (rr : ∀ r ∈ m.rows, r.length ≤ 100) : Bad m := ⟨Bool.eq_false_iff.mpr fun z => h (okM_iff.mp z), nl, ok, rl, el, rr⟩
theorem mem_setI {α : Type} {x y : α} : ∀ {l : List α} {n : Nat}, x ∈ l.set n y → x ∈ l ∨ x = y
  | [], _, h => by cases h
  | a :: l, 0, h => by
    rcases List.mem_cons.mp h with h | h
    · exact .inr h
    · exact .inl (List.mem_cons_of_mem _ h)
  | a :: l, n + 1, h => by
    rcases List.mem_cons.mp h with h | h
    · exact .inl (h ▸ List.mem_cons_self ..)
    · rcases mem_setI h with h | h
      · exact .inl (List.mem_cons_of_mem _ h)
      · exact .inr h
theorem set_memI {α : Type} {y : α} {l : List α} {n : Nat} (h : n < l.length) : y ∈ l.set n y := List.mem_of_getElem? (List.getElem?_set_self h)
end K36
namespace K36
local macro_rules | `(tactic| walk_at "rd") => `(tactic| repeat (first | refine ⟨rfl, ?_⟩ | refine ⟨_, rfl, ?_⟩ | refine ⟨_, _, rfl, rfl, ?_⟩ | refine ⟨⟨_, rfl⟩, ?_⟩))
open PySem PySem.Spec PyProof.Rows L2 Bx TL Dx Zx Ow Sup NdefX Px
theorem RL.fresh {src R A : Addr} {H0 H : Hp} {us : List V} {rs : List (List Int)} (h : RL src R H0 H us rs) (n : H A = none) : ∀ j : Nat, us[j]? ≠ some (V.ref A) := fun j e => by
  obtain ⟨hj, _⟩ := List.getElem?_eq_some_iff.mp e
  obtain ⟨q, a, _, _, _, d⟩ := h.at_ j _ (List.getElem?_eq_getElem (by rw [← h.len]; exact hj))
  rw [e] at a
  cases a
  rw [n] at d
  cases d
theorem RL.nil (src R : Addr) (H0 H : Hp) : RL src R H0 H [] [] := ⟨rfl, fun j r h => (by cases h), fun i j v h => (by cases h)⟩
/-- new lists in a new list -/
theorem RL.move {src R R2 : Addr} {H0 H : Hp} {us : List V} {rs : List (List Int)} (h : RL src R H0 H us rs) (n : H R2 = none) : RL src R2 H0 H us rs := ⟨h.len, fun j r hr => by
  obtain ⟨q, a, b, c, d, e⟩ := h.at_ j r hr
  exact ⟨q, a, b, c, fun z => (by rw [z, n] at e; cases e), e⟩, h.inj⟩
theorem and_case {t u : TT} {σ : List (Option V)} {H : Hp} {Q : Bool → Hp → Prop} {b1 b2 : Bool} (h1 : ∀ R : Bool → Hp → Prop, R b1 H → t σ H R) (h2 : ∀ R : Bool → Hp → Prop, R b2 H → u σ H R) (q : Q (b1 && b2) H) : tAnd t u σ H Q := by
  cases b1 with
  | false => exact h1 _ q
  | true => exact h1 _ (h2 _ q)
theorem no_dup {n0 : Str} {ns : List Str} (h : n0 ∈ ns) : ¬ Asc (n0 :: ns) := fun z => (List.nodup_cons.mp (asc_nodup z)).1 h
theorem no_rev {ns : List Str} (as : Asc ns) (h : 1 < ns.length) : ¬ Asc ns.reverse := fun z => by
  match ns, h with
  | a :: b :: r, _ =>
  have h1 : a.cps.toList < b.cps.toList := (List.pairwise_cons.mp as).1 b (List.mem_cons_self ..)
  have z2 : (a :: b :: r).Pairwise fun x y => y.cps.toList < x.cps.toList := List.pairwise_reverse.mp z
  have h2 : b.cps.toList < a.cps.toList := (List.pairwise_cons.mp z2).1 b (List.mem_cons_self ..)
  exact absurd (List.lt_trans h1 h2) (List.lt_irrefl _)
section
variable {P : Program} {w : World} {K : PySem.W.Frag} {mg : Str → Option Value} {base : Heap}
@[irreducible] def spSpoil (K : PySem.W.Frag) : Sp := fun vs H Q _ => ∃ (s p : Addr) (m : Mc), vs = [.ref s, .ref p] ∧ Src H s ∧ Dp K H (.ref p) (mcD m) ∧ MachOk m ∧ ∀ (v : V) (m' : Mc) (H' : Hp), SameBut s H H' → Src H' s → Dp K H' v (mcD m') → Bad m' → Q v H'
set_option maxHeartbeats 8000000 in
theorem ok_spoilt {f : Addr} {fd : FuncData} (F : Fun K "_law_spoilt" "_law_spoilt" s__law_spoilt f fd) (m_list : mg "list" = none) (m_tuple : mg "tuple" = none) (m_len : mg "len" = none) (C__law_draw : CDraw P w K mg base) : FnOk P w K mg base CX0 2 f fd ["_law_source_here", "_law_machine_here"] (spSpoil K) := by
  refine F.ok sc__law_spoilt (fun vs H Q E h => ?_) (fun cdv A outer s H vs Q E hr h => ?_)
  · unfold spSpoil at h
    obtain ⟨s, p, m, rfl, _⟩ := h
    rfl
  · unfold spSpoil at h
    obtain ⟨src, p, m, rfl, hA, hp, mo, q⟩ := h
    obtain ⟨p', pn, pm, pe, xs, ep, M⟩ := mc_dp hp
    cases ep
    have xl : xs.length = m.rows.length := by rw [da_len M.d, List.length_map]
    have s4 := mo.s4
    have n3 := mo.n3
    have p8 : 2 ^ m.ns.length ≤ 8 := Nat.pow_le_pow_right (by decide) n3
    have p0 : 0 < 2 ^ m.ns.length := Nat.pow_pos (by decide)
    have r0 := mo.ok.rows.1
    have el : m.ends.length = m.rows.length := mo.ok.ends
    have okz : ∀ z ∈ m.ns, PyData.strOk z = true := fun z hz => pool_ok z (mo.sub.subset hz)
    have rr8 : ∀ r ∈ m.rows, r.length ≤ 8 := fun r hr => by rw [(mo.ok.rows.2 r hr).1]; exact p8
    refine ⟨_, (pss_cons (ps_set (i := 2) sc__law_spoilt.nd rfl (Or.inl rfl) (pe_ix ix_tup (pv 1) pe_int (fun _ _ => rfl)))
    (pss_cons (ps_setLc (i := 3) (own := [("_law_row", 8)]) (tt := tYes) rfl sc__law_spoilt.nd rfl rfl (sw_true rfl rfl rfl (by decide +kernel)) (pi_tup (pe_ix ix_tup (pv 1) pe_int (fun _ _ => rfl))) (blkOk_by (N := n__law_spoilt) (sc := defScope s__law_spoilt) (by decide +kernel)) (fun _ _ _ _ _ => pg_name (i := 8) sc__law_spoilt.nd rfl (Or.inl rfl)) (fun _ _ _ _ _ => pts_nil) (fun _ _ _ _ _ => (pe_callTy (T := "list") (call_list_ofK (K := K) rfl) (by rfl) m_list (by decide +kernel) (pa_cons (pv 8) pa_nil))))
    (pss_cons (ps_set (i := 4) sc__law_spoilt.nd rfl (Or.inl rfl) (pe_callTy (T := "list") call_list_of (by rfl) m_list (by decide +kernel) (pa_cons (pe_ix ix_tup (pv 1) pe_int (fun _ _ => rfl)) pa_nil)))
    (pss_cons (ps_set (i := 5) sc__law_spoilt.nd rfl (Or.inl rfl) (pe_cal C__law_draw (hr.mono (by decide)) (pa_cons (pv 0) (pa_cons (pe_callB call_len_seq (by rfl) m_len PySem.boot_len (pa_cons (pv 3) pa_nil)) pa_nil))))
    (pss_cons (ps_set (i := 6) sc__law_spoilt.nd rfl (Or.inl rfl) (pe_cal C__law_draw (hr.mono (by decide)) (pa_cons (pv 0) (pa_cons (pe_callB call_len_seq (by rfl) m_len PySem.boot_len (pa_cons (pe_ix ix_list (pv 3) (pv 5) (fun _ _ => rfl)) pa_nil)) pa_nil))))
    (pss_cons (ps_set (i := 7) sc__law_spoilt.nd rfl (Or.inl rfl) (pe_cal C__law_draw (hr.mono (by decide)) (pa_cons (pv 0) (pa_cons pe_int pa_nil))))
    (pss_cons (ps_if (pt_cmpR op_eq (pv 7) pe_int (nomark _))
      (pss_one (ps_asg (pe_callB call_len_seq (by rfl) m_len PySem.boot_len (pa_cons (pv 3) pa_nil)) (pg_sub (pe_ix ix_list (pv 3) (pv 5) (fun _ _ => rfl)) (pv 6) set_list)))
      (pss_one (ps_if (pt_cmpR op_eq (pv 7) pe_int (nomark _))
      (pss_one (ps_asg (pe_un un_neg pe_int) (pg_sub (pe_ix ix_list (pv 3) (pv 5) (fun _ _ => rfl)) (pv 6) set_list)))
      (pss_one (ps_if (pt_cmpR op_eq (pv 7) pe_int (nomark _))
      (pss_one (ps_asg (pe_slice sl_list (pe_ix ix_list (pv 3) (pv 5) (fun _ _ => rfl)) (po_some pe_int) po_none) (pg_sub (pv 3) (pv 5) set_list)))
      (pss_one (ps_if (pt_cmpR op_eq (pv 7) pe_int (nomark _))
      (pss_one (ps_asg (pe_op op_cat (pe_ix ix_list (pv 3) (pv 5) (fun _ _ => rfl)) (pe_lst (pa_cons pe_int pa_nil))) (pg_sub (pv 3) (pv 5) set_list)))
      (pss_one (ps_if (pt_cmpR op_eq (pv 7) pe_int (nomark _))
      (pss_one (ps_set (i := 4) sc__law_spoilt.nd rfl (Or.inl rfl) (pe_slice sl_list (pv 4) (po_some pe_int) po_none)))
      (pss_one (ps_if (PW.pt (pw_and (pt_cmpR op_eq (pv 7) pe_int (nomark _)) (pw_and1 (pt_cmpR op_gt (pe_callB call_len_seq (by rfl) m_len PySem.boot_len (pa_cons (pv 2) pa_nil)) pe_int (nomark _)))))
      (pss_cons (ps_set (i := 2) sc__law_spoilt.nd rfl (Or.inl rfl) (pe_op op_catT (pe_tup (pa_cons (pe_ix ix_tup (pv 2) pe_int (fun _ _ => rfl)) pa_nil)) (pv 2)))
    (pss_one (ps_setLc (i := 3) (own := [("_law_row", 8)]) (tt := tYes) rfl sc__law_spoilt.nd rfl rfl (sw_true rfl rfl rfl (by decide +kernel)) (pi_list (pv 3)) (blkOk_by (N := n__law_spoilt) (sc := defScope s__law_spoilt) (by decide +kernel)) (fun _ _ _ _ _ => pg_name (i := 8) sc__law_spoilt.nd rfl (Or.inl rfl)) (fun _ _ _ _ _ => pts_nil) (fun _ _ _ _ _ => (pe_op op_cat (pv 8) (pv 8))))))
      (pss_one (ps_if (PW.pt (pw_and (pt_cmpR op_eq (pv 7) pe_int (nomark _)) (pw_and1 (pt_cmpR op_gt (pe_callB call_len_seq (by rfl) m_len PySem.boot_len (pa_cons (pv 2) pa_nil)) pe_int (nomark _)))))
      (pss_one (ps_set (i := 2) sc__law_spoilt.nd rfl (Or.inl rfl) (Rt.pe_revT (pv 2))))
      (pss_one (ps_if (pt_cmpR op_eq (pv 7) pe_int (nomark _))
      (pss_cons (ps_set (i := 3) sc__law_spoilt.nd rfl (Or.inl rfl) (pe_lst pa_nil))
    (pss_one (ps_set (i := 4) sc__law_spoilt.nd rfl (Or.inl rfl) (pe_lst pa_nil))))
      (pss_one (ps_asg (pe_ix ix_list (pe_lst (pa_cons pe_int (pa_cons (pe_un un_neg pe_int) pa_nil))) (pe_cal C__law_draw (hr.mono (by decide)) (pa_cons (pv 0) (pa_cons pe_int pa_nil))) (fun _ _ => rfl)) (pg_sub (pv 4) (pv 5) set_list))))))))))))))))))
    (pss_one (ps_ret (pe_tup (pa_cons (pv 2) (pa_cons (pe_callTy (T := "tuple") call_tuple_of (by rfl) m_tuple (by decide +kernel) (pa_cons (pe_lc (own := [("_law_row", 8)]) (tt := tYes) rfl sc__law_spoilt.nd (pi_list (pv 3)) (blkOk_by (N := n__law_spoilt) (sc := defScope s__law_spoilt) (by decide +kernel)) (fun _ _ _ _ _ => pg_name (i := 8) sc__law_spoilt.nd rfl (Or.inl rfl)) (fun _ _ _ _ _ => pts_nil) (fun _ _ _ _ _ => (pe_callTy (T := "tuple") (call_tuple_ofK (K := K) rfl) (by rfl) m_tuple (by decide +kernel) (pa_cons (pv 8) pa_nil)))) pa_nil)) (pa_cons (pe_callTy (T := "tuple") call_tuple_of (by rfl) m_tuple (by decide +kernel) (pa_cons (pv 4) pa_nil)) pa_nil))))))))))))), ?_⟩
    walk_at "rd"
    refine ⟨_, _, _, _, rfl, rfl, M.t, atI_nat (j := 0) rfl, ?_⟩
    walk_at "rd"
    refine ⟨_, _, _, _, rfl, rfl, M.t, atI_nat (j := 1) rfl, ?_⟩
    refine ⟨pm, rfl, ⟨_, M.r⟩, fun R nR => ?_⟩
    have nRs := src_ne hA nR
    refine lc_it walk_tup (fun i H' => Same H H' ∧ ∃ us, H' R = some (.lst us) ∧ RL src R H H' us (m.rows.take i)) ⟨same_new nR, [], upd_same, RL.nil _ _ _ _⟩ (fun i H' _ h => Bx.Same.tup h.1 M.r) ?_ ?_
    · rintro i v H2a H2 hi ⟨s2, us, hR2, rl⟩ ⟨rfl, hx⟩
      obtain ⟨r, hr0, dr⟩ := da_atM M.d hx
      obtain ⟨q', rfl, hq⟩ := row_dp dr
      refine ⟨rfl, ?_⟩
      walk_at "rd"
      refine ⟨q', _, rfl, .inr (Bx.Same.tup s2 hq), fun B nB => ?_⟩
      have s3 := same_new nB (o := .lst (r.map V.int))
      have hB := upd_same (H := H2) (a := B) (o := .lst (r.map V.int))
      have frB := rl.fresh nB
      generalize upd H2 B (.lst (r.map V.int)) = H3 at s3 hB ⊢
      have BR : B ≠ R := fun e => by
        rw [e, hR2] at nB
        cases nB
      have hR3 := s3 _ _ hR2
      have ul : us.length ≤ 4 := by
        rw [rl.len]
        exact Nat.le_trans (List.length_take_le' i _) s4
      refine ⟨us, hR3, szl (by omega), same_at nR (s2.trans s3), us ++ [.ref B], upd_same, ?_⟩
      rw [List.take_add_one, hr0]
      exact ((rl.keep (H' := upd H3 R (.lst (us ++ [.ref B]))) fun b o _ ne e => by rw [upd_ne ne]; exact s3 _ _ e).snoc (s2.free nB) (src_ne (src_same hA s2) nB).symm BR (by rw [upd_ne BR]; exact hB) frB)
    rintro H2 ⟨s2, us, hR2, rl⟩
    rw [xl, List.take_length] at rl
    have M2 := M.same s2
    have hA2 := src_same hA s2
    walk_at "rd"
    refine ⟨_, _, _, _, rfl, rfl, M2.t, atI_nat (j := 2) rfl, ?_⟩
    refine ⟨pe, _, rfl, .inr M2.e, fun Ee nE => ?_⟩
    have nEs := src_ne hA2 nE
    have s3 := same_new nE (o := .lst (m.ends.map V.int))
    have hE3 := upd_same (H := H2) (a := Ee) (o := .lst (m.ends.map V.int))
    have hA3 := src_same hA2 s3
    have hR3 := s3 _ _ hR2
    have nE0 := s2.free nE
    have ER : Ee ≠ R := fun e => by
      rw [e, hR2] at nE
      cases nE
    have usE := rl.fresh nE
    have rl3 := rl.keep (H' := upd H2 Ee (.lst (m.ends.map V.int))) fun b o _ _ e => s3 _ _ e
    have s03 := s2.trans s3
    generalize upd H2 Ee (.lst (m.ends.map V.int)) = H3 at s3 hE3 hA3 hR3 rl3 s03 ⊢
    have ul : us.length = m.rows.length := rl.len
    walk_at "rd"
    refine ⟨R, _, rfl, .inl (sq hR3), ?_⟩
    refine draw_of (lim := ((us.length : Nat) : Int)) hA3 ⟨by omega, by omega⟩ fun a0 H4 a00 a01 b4 hA4 => ?_
    obtain ⟨k, rfl⟩ := Int.eq_ofNat_of_zero_le a00
    have hk : k < m.rows.length := by omega
    have hR4 := b4 _ _ nRs.symm hR3
    have hE4 := b4 _ _ nEs.symm hE3
    have rl4 := rl3.keep (H' := H4) fun b o ns _ e => b4 _ _ ns e
    obtain ⟨r0', hr0'⟩ : ∃ r, m.rows[k]? = some r := ⟨_, List.getElem?_eq_getElem hk⟩
    obtain ⟨q0, uq, q01, q02, q03, q04⟩ := rl4.at_ k r0' hr0'
    have rm := List.mem_of_getElem? hr0'
    have rlen := (mo.ok.rows.2 r0' rm).1
    have rl8 := rr8 r0' rm
    walk_at "rd"
    refine ⟨_, _, _, _, rfl, rfl, sq hR4, atI_nat uq, ?_⟩
    refine ⟨q0, _, rfl, .inl (sq q04), ?_⟩
    rw [List.length_map]
    refine draw_of (lim := ((r0'.length : Nat) : Int)) hA4 ⟨by omega, by omega⟩ fun c0 H5 c00 c01 b5 hA5 => ?_
    obtain ⟨c, rfl⟩ := Int.eq_ofNat_of_zero_le c00
    have hc : c < r0'.length := by omega
    walk_at "rd"
    refine draw_of (lim := 9) hA5 (by decide) fun wy H6 _ _ b6 hA6 => ?_
    have b46 := b5.trans b6
    have hR6 := b46 _ _ nRs.symm hR4
    have hE6 := b46 _ _ nEs.symm hE4
    have rl6 := rl4.keep (H' := H6) fun b o ns _ e => b46 _ _ ns e
    have q06 := b46 _ _ q02 q04
    have s06 : SameBut src H H6 := (Bx.Same.but s03).trans (b4.trans b46)
    have M6 : MAt K H6 p pn pm pe xs m := ⟨sqt_but hA s06 M.t, sqt_but hA s06 M.n, sqt_but hA s06 M.r, da_tk (tk_but hA s06) _ _ (tup_rows _) M.d, sqt_but hA s06 M.e⟩
    clear rl rl3 rl4 q04 hR4 hE4 hR3 hE3 hA3 hA4 hA5 b4 b5 b6 b46 s3 s2 hR2 hA2 M2 s03
    dsimp only [gName]
    refine st_any (fun σ' H' => ∃ (na R' E' : Addr) (us' : List V) (ns' : List Str) (rs' : List (List Int)) (es' : List Int), σ' = [some (.ref src), some (.ref p), some (.ref na), some (.ref R'), some (.ref E'), some (.int (k : Nat)), some (.int (c : Nat)), some (.int wy), none] ∧ SameBut src H H' ∧ Src H' src ∧ SqT K H' na (ns'.map V.str) ∧ H' R' = some (.lst us') ∧ RL src R' H H' us' rs' ∧ H' E' = some (.lst (es'.map V.int)) ∧ Bad ⟨ns', rs', es'⟩) (fun D' hD' => ?_) ?_
    · -- a row's number written
      have wr : ∀ x : Int, ¬ (-1 ≤ x ∧ x < (m.rows.length : Int)) → D'.nx [some (.ref src), some (.ref p), some (.ref pn), some (.ref R), some (.ref Ee), some (.int (k : Nat)), some (.int (c : Nat)), some (.int wy), none] (upd H6 q0 (.lst ((r0'.map V.int).set c (.int x)))) := fun x hx => by
        have e : (r0'.map V.int).set c (.int x) = (r0'.set c x).map V.int := List.map_set.symm
        rw [e]
        have qE : q0 ≠ Ee := fun z => usE k (by rw [← z]; exact uq)
        refine hD' _ _ ⟨pn, R, Ee, us, m.ns, m.rows.set k (r0'.set c x), m.ends, rfl, but_at q01 s06, src_upd hA6 q02.symm, tk_lst (K := K) q06 _ _ M6.n, by rw [upd_ne (Ne.symm q03)]; exact hR6, rl6.write uq hk, by rw [upd_ne (Ne.symm qE)]; exact hE6, bad_of (fun z => ?_) (by show m.ns.length ≤ 20; omega) okz (by show (m.rows.set k (r0'.set c x)).length ≤ 100; rw [List.length_set]; omega) (by show m.ends.length ≤ 100; omega) fun r hr => ?_⟩
        · have z2 := (z.row (r0'.set c x) (set_memI hk)).2 x (set_memI hc)
          rw [show (⟨m.ns, m.rows.set k (r0'.set c x), m.ends⟩ : Mc).rows.length = m.rows.length from List.length_set] at z2
          exact hx z2
        · rcases mem_setI hr with h | h
          · have := rr8 r h
            omega
          · rw [h, List.length_set]
            omega
      -- another list in a row's place
      have pt : ∀ (B : Addr) (r' : List Int) (H7 : Hp), Same H6 H7 → H6 B = none → H7 B = some (.lst (r'.map V.int)) → r'.length ≤ 9 → r'.length ≠ 2 ^ m.ns.length → D'.nx [some (.ref src), some (.ref p), some (.ref pn), some (.ref R), some (.ref Ee), some (.int (k : Nat)), some (.int (c : Nat)), some (.int wy), none] (upd H7 R (.lst (us.set k (.ref B)))) := fun B r' H7 s7 nB hB l9 bad => by
        have BR : B ≠ R := (ne_of_none hR6 nB).symm
        have Bs : B ≠ src := (src_ne hA6 nB).symm
        have hR7 := s7 _ _ hR6
        refine hD' _ _ ⟨pn, R, Ee, us.set k (.ref B), m.ns, m.rows.set k r', m.ends, rfl, but_at nR (s06.trans (Bx.Same.but s7)), src_upd (src_same hA6 s7) nRs, tk_lst (K := K) hR7 _ _ (Bx.Same.tup s7 M6.n), upd_same, rl6.put hk (fun b o _ ne e => by rw [upd_ne ne]; exact s7 _ _ e) (free_but s06 nB Bs) Bs BR (by rw [upd_ne BR]; exact hB) (rl6.fresh nB), by rw [upd_ne ER]; exact s7 _ _ hE6, bad_of (fun z => bad (z.row r' (set_memI hk)).1) (by show m.ns.length ≤ 20; omega) okz (by show (m.rows.set k r').length ≤ 100; rw [List.length_set]; omega) (by show m.ends.length ≤ 100; omega) fun r hr => ?_⟩
        rcases mem_setI hr with h | h
        · have := rr8 r h
          omega
        · rw [h]
          omega
      have ixk : ixN us.length (k : Int) = some k := by
        unfold ixN
        rw [if_pos (by omega), if_pos (by omega), Int.toNat_natCast]
      have ixc : ixN (r0'.map V.int).length (c : Int) = some c := by
        unfold ixN
        rw [List.length_map, if_pos (by omega), if_pos (by omega), Int.toNat_natCast]
      walk_at "rd"
      refine ite2 (fun _ => ?_) (fun _ => ?_)
      · walk_at "rd"
        refine ⟨R, _, rfl, .inl (sq hR6), ?_⟩
        walk_at "rd"
        refine ⟨_, _, _, _, rfl, rfl, sq hR6, atI_nat uq, ?_⟩
        walk_at "rd"
        refine ⟨q0, _, _, c, rfl, rfl, q06, ixc, ?_⟩
        exact wr _ (by omega)
      walk_at "rd"
      refine ite2 (fun _ => ?_) (fun _ => ?_)
      · walk_at "rd"
        refine ⟨_, _, _, _, rfl, rfl, sq hR6, atI_nat uq, ?_⟩
        walk_at "rd"
        refine ⟨q0, _, _, c, rfl, rfl, q06, ixc, ?_⟩
        exact wr _ (by omega)
      walk_at "rd"
      refine ite2 (fun _ => ?_) (fun _ => ?_)
      · walk_at "rd"
        refine ⟨_, _, _, _, rfl, rfl, sq hR6, atI_nat uq, ?_⟩
        walk_at "rd"
        refine ⟨q0, _, rfl, sq q06, fun B nB => ?_⟩
        have e : cutV (r0'.map V.int) (some 1) none = (r0'.drop 1).map V.int := by
          rw [List.map_drop]
          exact cut_suf _ 1
        rw [e]
        walk_at "rd"
        refine ⟨R, _, _, k, rfl, rfl, same_new nB _ _ hR6, ixk, ?_⟩
        exact pt B (r0'.drop 1) _ (same_new nB) nB upd_same (by rw [List.length_drop]; omega) (by rw [List.length_drop]; omega)
      walk_at "rd"
      refine ite2 (fun _ => ?_) (fun _ => ?_)
      · walk_at "rd"
        refine ⟨_, _, _, _, rfl, rfl, sq hR6, atI_nat uq, ?_⟩
        refine ⟨sz (by show 1 ≤ 100000; decide), fun A1 nA1 => ?_⟩
        have s7 := same_new nA1 (o := .lst [V.int 0])
        have hA1 := upd_same (H := H6) (a := A1) (o := .lst [V.int 0])
        generalize upd H6 A1 (.lst [V.int 0]) = H7 at s7 hA1 ⊢
        refine ⟨q0, A1, r0'.map V.int, [.int 0], rfl, rfl, s7 _ _ q06, hA1, sz (by rw [List.length_map]; show r0'.length + 1 ≤ 100000; omega), fun B nB => ?_⟩
        walk_at "rd"
        refine ⟨R, _, _, k, rfl, rfl, same_new nB _ _ (s7 _ _ hR6), ixk, ?_⟩
        exact pt B (r0' ++ [0]) _ (s7.trans (same_new nB)) (s7.free nB) (by rw [upd_same, List.map_append]; rfl) (by rw [List.length_append]; show r0'.length + 1 ≤ 9; omega) (by rw [List.length_append]; show r0'.length + 1 ≠ _; omega)
      walk_at "rd"
      refine ite2 (fun _ => ?_) (fun _ => ?_)
      · walk_at "rd"
        refine ⟨Ee, _, rfl, sq hE6, fun B nB => ?_⟩
        have e : cutV (m.ends.map V.int) (some 1) none = (m.ends.drop 1).map V.int := by
          rw [List.map_drop]
          exact cut_suf _ 1
        rw [e]
        have s7 := same_new nB (o := .lst ((m.ends.drop 1).map V.int))
        refine hD' _ _ ⟨pn, R, B, us, m.ns, m.rows, m.ends.drop 1, rfl, s06.trans (Bx.Same.but s7), src_same hA6 s7, Bx.Same.tup s7 M6.n, s7 _ _ hR6, rl6.keep fun b o _ _ e => s7 _ _ e, upd_same, bad_of (fun z => ?_) (by show m.ns.length ≤ 20; omega) okz (by show m.rows.length ≤ 100; omega) (by show (m.ends.drop 1).length ≤ 100; rw [List.length_drop]; omega) fun r hr => by have := rr8 r hr; omega⟩
        have z2 : m.rows.length = (m.ends.drop 1).length := z.len
        rw [List.length_drop] at z2
        omega
      have lenT : ∀ (m0 : Int) (R0 : Bool → Hp → Prop), R0 (decide (m0 < (((m.ns.map V.str).length : Nat) : Int))) H6 → R0 (decide (m0 < ((m.ns.length : Nat) : Int))) H6 := fun m0 R0 h => by
        rw [List.length_map] at h
        exact h
      dsimp only [tIfS]
      refine and_case (b1 := decide (V.int wy = V.int 5)) (b2 := decide ((0 : Int) < (((m.ns.map V.str).length : Nat) : Int))) (fun R0 hR => ?_) (fun R0 hR => ?_) (ite2 (fun h5 => ?_) (fun _ => ?_))
      · walk_at "rd"
        exact hR
      · walk_at "rd"
        refine ⟨pn, _, rfl, .inr M6.n, ?_⟩
        walk_at "rd"
        exact hR
      · have n0 : 0 < m.ns.length := by
          have z := (Bool.and_eq_true _ _).mp h5
          have z2 := of_decide_eq_true z.2
          rw [List.length_map] at z2
          omega
        have e0 := List.getElem?_eq_getElem n0
        have m0 := List.getElem_mem n0
        generalize m.ns[0] = z0 at e0 m0
        walk_at "rd"
        refine ⟨_, _, _, _, rfl, rfl, M6.n, atI_nat (j := 0) (v := .str z0) (by rw [List.getElem?_map, e0]; rfl), ?_⟩
        refine ⟨sz (by show 1 ≤ 100000; decide), fun T1 nT1 => ?_⟩
        have s7 := same_new nT1 (o := .tup [V.str z0])
        have hT1 := upd_same (H := H6) (a := T1) (o := .tup [V.str z0])
        generalize upd H6 T1 (.tup [V.str z0]) = H7 at s7 hT1 ⊢
        walk_at "rd"
        refine ⟨T1, pn, [.str z0], m.ns.map V.str, rfl, rfl, sqt hT1, Bx.Same.tup s7 M6.n, by simp, sz (by rw [List.length_map]; show 1 + m.ns.length ≤ 100000; omega), fun z => ?_, fun _ na nna => ?_⟩
        · have z2 := congrArg List.length z
          rw [List.length_map] at z2
          simp only [List.length_nil] at z2
          omega
        have s8 := same_new nna (o := .tup ([V.str z0] ++ m.ns.map V.str))
        have hna := upd_same (H := H7) (a := na) (o := .tup ([V.str z0] ++ m.ns.map V.str))
        generalize upd H7 na (.tup ([V.str z0] ++ m.ns.map V.str)) = H8 at s8 hna ⊢
        have s68 := s7.trans s8
        have hR8 := s68 _ _ hR6
        have rl8' := rl6.keep (H' := H8) fun b o _ _ e => s68 _ _ e
        have hA8 := src_same hA6 s68
        have s08 := s06.trans (Bx.Same.but s68)
        walk_at "rd"
        refine ⟨⟨_, sq hR8⟩, fun R2 nR2 => ?_⟩
        have nR2s := src_ne hA8 nR2
        refine lc_it walk_list (fun i H' => Same H8 H' ∧ ∃ us2, H' R2 = some (.lst us2) ∧ RL src R2 H H' us2 ((m.rows.take i).map fun r => r ++ r)) ⟨same_new nR2, [], upd_same, RL.nil _ _ _ _⟩ (fun i H' _ h => sq (h.1 _ _ hR8)) ?_ ?_
        · rintro i v H9a H9 hi ⟨s9, us2, hM9, rl9⟩ ⟨rfl, hx⟩
          have hi2 : i < m.rows.length := by rw [← ul]; exact hi
          obtain ⟨r, hr⟩ : ∃ r, m.rows[i]? = some r := ⟨_, List.getElem?_eq_getElem hi2⟩
          obtain ⟨q1, a1, a2, a3, a4, a5⟩ := rl8'.at_ i r hr
          rw [a1] at hx
          cases hx
          have r8 := rr8 r (List.mem_of_getElem? hr)
          refine ⟨rfl, ?_⟩
          walk_at "rd"
          refine ⟨q1, q1, r.map V.int, r.map V.int, rfl, rfl, s9 _ _ a5, s9 _ _ a5, sz (by rw [List.length_map]; omega), fun B nB => ?_⟩
          have s10 := same_new nB (o := .lst (r.map V.int ++ r.map V.int))
          have hB := upd_same (H := H9) (a := B) (o := .lst (r.map V.int ++ r.map V.int))
          have frB := rl9.fresh nB
          generalize upd H9 B (.lst (r.map V.int ++ r.map V.int)) = H10 at s10 hB ⊢
          have BR : B ≠ R2 := fun e => by
            rw [e, hM9] at nB
            cases nB
          have Bs : B ≠ src := (src_ne (src_same hA8 s9) nB).symm
          have ul9 : us2.length ≤ 4 := by
            rw [rl9.len, List.length_map]
            exact Nat.le_trans (List.length_take_le' i _) s4
          refine ⟨us2, s10 _ _ hM9, szl (by omega), same_at nR2 (s9.trans s10), us2 ++ [.ref B], upd_same, ?_⟩
          rw [List.take_add_one, hr, List.map_append]
          exact ((rl9.keep (H' := upd H10 R2 (.lst (us2 ++ [.ref B]))) fun b o _ ne e => by rw [upd_ne ne]; exact s10 _ _ e).snoc (r := r ++ r) (free_but (s08.trans (Bx.Same.but s9)) nB Bs) Bs BR (by rw [upd_ne BR, hB, List.map_append]) frB)
        rintro H9 ⟨s9, us2, hM9, rl9⟩
        rw [ul, List.take_length] at rl9
        refine hD' _ H9 ⟨na, R2, Ee, us2, z0 :: m.ns, m.rows.map (fun r => r ++ r), m.ends, rfl, s08.trans (Bx.Same.but s9), src_same hA8 s9, Bx.Same.tup s9 (sqt hna), hM9, rl9, s9 _ _ (s68 _ _ hE6), bad_of (fun z => no_dup m0 z.asc) (by show m.ns.length + 1 ≤ 20; omega) (fun z hz => ?_) (by show (m.rows.map _).length ≤ 100; rw [List.length_map]; omega) (by show m.ends.length ≤ 100; omega) fun r hr => ?_⟩
        · rcases List.mem_cons.mp hz with h | h
          · rw [h]
            exact okz z0 m0
          · exact okz z h
        · obtain ⟨r1, hr1, rfl⟩ := List.mem_map.mp hr
          have := rr8 r1 hr1
          rw [List.length_append]
          omega
      refine and_case (b1 := decide (V.int wy = V.int 6)) (b2 := decide ((1 : Int) < (((m.ns.map V.str).length : Nat) : Int))) (fun R0 hR => ?_) (fun R0 hR => ?_) (ite2 (fun h6 => ?_) (fun _ => ?_))
      · walk_at "rd"
        exact hR
      · walk_at "rd"
        refine ⟨pn, _, rfl, .inr M6.n, ?_⟩
        walk_at "rd"
        exact hR
      · have n1 : 1 < m.ns.length := by
          have z := (Bool.and_eq_true _ _).mp h6
          have z2 := of_decide_eq_true z.2
          rw [List.length_map] at z2
          omega
        walk_at "rd"
        refine ⟨pn, _, rfl, M6.n, fun na nna => ?_⟩
        have s7 := same_new nna (o := .tup (m.ns.map V.str).reverse)
        refine hD' _ _ ⟨na, R, Ee, us, m.ns.reverse, m.rows, m.ends, rfl, s06.trans (Bx.Same.but s7), src_same hA6 s7, by rw [List.map_reverse]; exact sqt upd_same, s7 _ _ hR6, rl6.keep fun b o _ _ e => s7 _ _ e, s7 _ _ hE6, bad_of (fun z => no_rev (List.Pairwise.sublist mo.sub pool_asc1) n1 z.asc) (by show m.ns.reverse.length ≤ 20; rw [List.length_reverse]; omega) (fun z hz => okz z (List.mem_reverse.mp hz)) (by show m.rows.length ≤ 100; omega) (by show m.ends.length ≤ 100; omega) fun r hr => by have := rr8 r hr; omega⟩
      walk_at "rd"
      refine ite2 (fun _ => ?_) (fun _ => ?_)
      · walk_at "rd"
        refine ⟨sz (by decide), fun R2 nR2 => ?_⟩
        have s7 := same_new nR2 (o := .lst ([] : List V))
        have hR2 := upd_same (H := H6) (a := R2) (o := .lst ([] : List V))
        generalize upd H6 R2 (.lst []) = H7 at s7 hR2 ⊢
        walk_at "rd"
        refine ⟨sz (by decide), fun E2 nE2 => ?_⟩
        have s8 := same_new nE2 (o := .lst ([] : List V))
        exact hD' _ _ ⟨pn, R2, E2, [], m.ns, [], [], rfl, s06.trans (Bx.Same.but (s7.trans s8)), src_same hA6 (s7.trans s8), Bx.Same.tup (s7.trans s8) M6.n, s8 _ _ hR2, RL.nil _ _ _ _, upd_same, bad_of (fun z => z.ne rfl) (by show m.ns.length ≤ 20; omega) okz (Nat.zero_le _) (Nat.zero_le _) fun r hr => (by cases hr)⟩
      · walk_at "rd"
        refine ⟨sz (by show 2 ≤ 100000; decide), fun L2 nL2 => ?_⟩
        have s7 := same_new nL2 (o := .lst [V.int 2, .int (-1)])
        have hL2 := upd_same (H := H6) (a := L2) (o := .lst [V.int 2, .int (-1)])
        have hA7 := src_same hA6 s7
        have Ls : L2 ≠ src := (src_ne hA6 nL2).symm
        generalize upd H6 L2 (.lst [V.int 2, .int (-1)]) = H7 at s7 hL2 hA7 ⊢
        walk_at "rd"
        refine draw_of (lim := 2) hA7 (by decide) fun r8 H8 h80 h81 b8 hA8 => ?_
        obtain ⟨j, rfl⟩ := Int.eq_ofNat_of_zero_le h80
        obtain ⟨y, hy, ny⟩ : ∃ y : Int, [V.int 2, .int (-1)][j]? = some (.int y) ∧ ¬ (y = 0 ∨ y = 1) := by
          have e : j = 0 ∨ j = 1 := by omega
          rcases e with rfl | rfl
          · exact ⟨2, rfl, by decide⟩
          · exact ⟨-1, rfl, by decide⟩
        refine ⟨_, _, _, _, rfl, rfl, sq (b8 _ _ Ls hL2), atI_nat hy, ?_⟩
        have b68 := (Bx.Same.but s7).trans b8
        have hE8 := b68 _ _ nEs.symm hE6
        walk_at "rd"
        refine ⟨Ee, _, _, k, rfl, rfl, hE8, by unfold ixN; rw [List.length_map, if_pos (by omega), if_pos (by omega), Int.toNat_natCast], ?_⟩
        have ee : (m.ends.map V.int).set k (.int y) = (m.ends.set k y).map V.int := List.map_set.symm
        rw [ee]
        exact hD' _ _ ⟨pn, R, Ee, us, m.ns, m.rows, m.ends.set k y, rfl, but_at nE0 (s06.trans b68), src_upd hA8 nEs, tk_lst (K := K) hE8 _ _ (sqt_but hA6 b68 M6.n), by rw [upd_ne (Ne.symm ER)]; exact b68 _ _ nRs.symm hR6, ⟨rl6.len, fun j2 r2 h2 => (by
          obtain ⟨q1, a1, a2, a3, a4, a5⟩ := rl6.at_ j2 r2 h2
          exact ⟨q1, a1, a2, a3, a4, by rw [upd_ne fun z => usE j2 (by rw [← z]; exact a1)]; exact b68 _ _ a3 a5⟩), rl6.inj⟩, upd_same, bad_of (fun z => ny (z.e01 y (set_memI (by omega)))) (by show m.ns.length ≤ 20; omega) okz (by show m.rows.length ≤ 100; omega) (by show (m.ends.set k y).length ≤ 100; rw [List.length_set]; omega) fun r hr => by have := rr8 r hr; omega⟩
    rintro σ' H7 ⟨na, R', E', us', ns', rs', es', rfl, b7, hA7, hna, hR7, rl7, hE7, bad⟩
    walk_at "rd"
    refine ⟨⟨_, sq hR7⟩, fun D2 nD2 => ?_⟩
    refine lc_it walk_list (fun i H' => Same H7 H' ∧ ∃ ws, H' D2 = some (.lst ws) ∧ DpAll K (mn H' [D2]) ws ((rs'.take i).map rowD) ∧ ws.length = i) ⟨same_new nD2, [], upd_same, .nil, rfl⟩ (fun i H' _ h => sq (h.1 _ _ hR7)) ?_ ?_
    · rintro i v H8a H8 hi ⟨s8, ws, hM, hda, wl⟩ ⟨rfl, hx⟩
      have hi2 : i < rs'.length := by rw [← rl7.len]; exact hi
      have i100 : i < 100 := by
        have z : rs'.length ≤ 100 := bad.rl
        omega
      obtain ⟨r, hr⟩ : ∃ r, rs'[i]? = some r := ⟨_, List.getElem?_eq_getElem hi2⟩
      obtain ⟨q1, a1, a2, a3, a4, a5⟩ := rl7.at_ i r hr
      rw [a1] at hx
      cases hx
      refine ⟨rfl, ?_⟩
      walk_at "rd"
      refine ⟨q1, _, rfl, .inl ⟨sq (s8 _ _ a5), fun tq ntq => ?_⟩⟩
      have s9 := same_new ntq (o := .tup (r.map V.int))
      have h9 := upd_same (H := H8) (a := tq) (o := .tup (r.map V.int))
      generalize upd H8 tq (.tup (r.map V.int)) = H9 at s9 h9 ⊢
      have ne : tq ≠ D2 := fun e => by
        rw [e, hM] at ntq
        cases ntq
      refine ⟨ws, s9 _ _ hM, szl (by omega), same_at nD2 (s8.trans s9), ws ++ [.ref tq], upd_same, ?_, by rw [List.length_append, wl]; rfl⟩
      rw [mn_upd (by simp), List.take_add_one, hr, List.map_append]
      refine da_app (dpAll_same (mn_all s9) hda) (da_one (dp_row (r := r) (sqt ?_)))
      rw [mn_out (by simp [ne])]
      exact h9
    rintro H8 ⟨s8, ws, hM, hda, wl⟩
    rw [rl7.len, List.take_length] at hda
    have hda2 := dpAll_same mn_same hda
    walk_at "rd"
    refine ⟨D2, _, rfl, .inl ⟨sq hM, fun aw naw => ?_⟩⟩
    have s9 := same_new naw (o := .tup ws)
    have haw := upd_same (H := H8) (a := aw) (o := .tup ws)
    generalize upd H8 aw (.tup ws) = H9 at s9 haw ⊢
    walk_at "rd"
    refine ⟨E', _, rfl, .inl ⟨sq ((s8.trans s9) _ _ hE7), fun ae nae => ?_⟩⟩
    have s10 := same_new nae (o := .tup (es'.map V.int))
    have hae := upd_same (H := H9) (a := ae) (o := .tup (es'.map V.int))
    generalize upd H9 ae (.tup (es'.map V.int)) = H10 at s10 hae ⊢
    refine ⟨sz (by show 3 ≤ 100000; decide), fun T nT => ?_⟩
    have s11 := same_new nT (o := .tup [.ref na, .ref aw, .ref ae])
    have s711 := s8.trans (s9.trans (s10.trans s11))
    exact q (.ref T) ⟨ns', rs', es'⟩ _ (b7.trans (Bx.Same.but s711)) (src_same hA7 s711) (dp_mc (pn := na) (pm := aw) (pe := ae) (xs := ws) ⟨sqt upd_same, Bx.Same.tup s711 hna, sqt ((s10.trans s11) _ _ haw), dpAll_same (s9.trans (s10.trans s11)) hda2, sqt (s11 _ _ hae)⟩) bad
end
end K36
namespace K36
local macro_rules | `(tactic| walk_at "rd") => `(tactic| repeat (first | refine ⟨rfl, ?_⟩ | refine ⟨_, rfl, ?_⟩ | refine ⟨_, _, rfl, rfl, ?_⟩ | refine ⟨⟨_, rfl⟩, ?_⟩))
open PySem PySem.Spec PyProof.Rows L2 Bx TL Dx Zx Ow Sup NdefX Px
section
variable {P : Program} {w : World} {K : PySem.W.Frag} {mg : Str → Option Value} {base : Heap}
@[irreducible] def spVR (K : PySem.W.Frag) : Sp := fun vs H Q _ => ∃ (s p : Addr) (m : Mc), vs = [.ref s, .ref p] ∧ Src H s ∧ Dp K H (.ref p) (mcD m) ∧ MachOk m ∧ ∀ H', SameBut s H H' → Src H' s → Q (.bl true) H'
set_option maxHeartbeats 4000000 in
theorem ok_valid_right {C : Addr} {f : Addr} {fd : FuncData} (F : Fun K "_law_valid_right" "_law_valid_right" s__law_valid_right f fd) (m_tuple : mg "tuple" = none) (m_range : mg "range" = none) (B_Words : Mk0.Bare K mg "Words" C) (C__law_pool : Cal P w K mg base "_law_pool" 1 [] (spPool K)) (C__law_is_bool : Cal P w K mg base "_law_is_bool" 1 ["_law_actual", "_law_expected"] spIsBool)
    (M_is_valid : MthC P w K mg base C "is_valid" 4 ["self", "names", "constraint"] (spSV K C)) (C__law_spoilt : Cal P w K mg base "_law_spoilt" 2 ["_law_source_here", "_law_machine_here"] (spSpoil K)) : FnOk P w K mg base CX0 5 f fd ["_law_source_here", "_law_machine_here"] (spVR K) := by
  refine F.ok sc__law_valid_right (fun vs H Q E h => ?_) (fun cdv A outer s H vs Q E hr h => ?_)
  · unfold spVR at h
    obtain ⟨s, p, m, rfl, _⟩ := h
    rfl
  · unfold spVR at h
    obtain ⟨src, p, m, rfl, hA, hp, mo, q⟩ := h
    obtain ⟨p', pn, pm, pe, xs, ep, M⟩ := mc_dp hp
    cases ep
    have n3 := mo.n3
    have s4 := mo.s4
    have el : m.ends.length = m.rows.length := mo.ok.ends
    have okz : ∀ z ∈ m.ns, PyData.strOk z = true := fun z hz => pool_ok z (mo.sub.subset hz)
    have p8 : 2 ^ m.ns.length ≤ 8 := Nat.pow_le_pow_right (by decide) n3
    have rr : ∀ r ∈ m.rows, r.length ≤ 100 := fun r hr => by
      have := (mo.ok.rows.2 r hr).1
      omega
    -- is_valid of the machine
    have iv : ∀ {Q' : VK} {H1 : Hp} {k dk t : Addr} {ns : List Str} {b : Bool}, H1 k = some (.ins C dk []) → SqT K H1 t (ns.map V.str) → Dp K H1 (.ref p) (mcD m) → okM ns m = b → (∀ H', Same H1 H' → Q' (.bl b) H') → spSV K C [.ref k, .ref t, .ref p] H1 Q' E0 := fun {Q' H1 k dk t ns b} hk ht hp1 e q' => by
      unfold spSV
      refine ⟨k, dk, t, p, [], ns, m, rfl, hk, rfl, ht, hp1, by omega, okz, by omega, by omega, rr, fun H' s' => ?_⟩
      rw [e]
      exact q' H' s'
    have ib : ∀ {Q' : VK} {H1 : Hp} {b : Bool}, Q' (.bl true) H1 → spIsBool [.bl b, .bl b] H1 Q' E0 := fun {Q' H1 b} q' => by
      unfold spIsBool
      exact ⟨b, rfl, q'⟩
    refine ⟨_, (pss_cons (ps_set (i := 2) sc__law_valid_right.nd rfl (Or.inl rfl) (pe_cal0 C__law_pool (hr.mono (by decide))))
    (pss_cons (ps_if (pt_not (pt_val (pe_cal C__law_is_bool (hr.mono (by decide)) (pa_cons (pe_mth M_is_valid (hr.mono (by decide)) (Mk0.pe_bare B_Words) (pa_cons (pv 2) (pa_cons (pv 1) pa_nil)) (ht := mcall_of (abase_call (by decide +kernel)) (fun _ => rfl))) (pa_cons pe_bl pa_nil)))))
      (pss_one (ps_ret pe_bl))
      pss_nil)
    (pss_cons (ps_if (pt_not (pt_val (pe_cal C__law_is_bool (hr.mono (by decide)) (pa_cons (pe_mth M_is_valid (hr.mono (by decide)) (Mk0.pe_bare B_Words) (pa_cons (pe_ix ix_tup (pv 1) pe_int (fun _ _ => rfl)) (pa_cons (pv 1) pa_nil)) (ht := mcall_of (abase_call (by decide +kernel)) (fun _ => rfl))) (pa_cons pe_bl pa_nil)))))
      (pss_one (ps_ret pe_bl))
      pss_nil)
    (pss_cons (ps_for PassesOwn.never rfl (pi_tup (pe_ix ix_tup (pv 1) pe_int (fun _ _ => rfl))) (pg_name (i := 3) sc__law_valid_right.nd rfl (Or.inr rfl))
      (pss_cons (ps_set (i := 5) sc__law_valid_right.nd rfl (Or.inl rfl) (pe_callTy (T := "tuple") call_tuple_of (by rfl) m_tuple (by decide +kernel) (pa_cons (pe_lc (own := [("_law_other", 6)]) rfl sc__law_valid_right.nd (pi_tup (pv 2)) (blkOk_by (N := n__law_valid_right) (sc := defScope s__law_valid_right) (by decide +kernel)) (fun _ _ _ _ _ => pg_name (i := 6) sc__law_valid_right.nd rfl (Or.inl rfl)) (fun _ _ _ _ _ => pts_one (pt_cmpR op_ne (pv 6) (pv 3) (nomark _))) (fun _ _ _ _ _ => (pv 6))) pa_nil)))
    (pss_one (ps_if (pt_not (pt_val (pe_cal C__law_is_bool (hr.mono (by decide)) (pa_cons (pe_mth M_is_valid (hr.mono (by decide)) (Mk0.pe_bare B_Words) (pa_cons (pv 5) (pa_cons (pv 1) pa_nil)) (ht := mcall_of (abase_call (by decide +kernel)) (fun _ => rfl))) (pa_cons pe_bl pa_nil)))))
      (pss_one (ps_ret pe_bl))
      pss_nil))))
    (pss_cons (ps_for PassesOwn.never rfl (pi_range1 (by rfl) m_range (pa_cons pe_int pa_nil)) (pg_name (i := 4) sc__law_valid_right.nd rfl (Or.inl rfl))
      (pss_one (ps_if (pt_not (pt_val (pe_cal C__law_is_bool (hr.mono (by decide)) (pa_cons (pe_mth M_is_valid (hr.mono (by decide)) (Mk0.pe_bare B_Words) (pa_cons (pv 2) (pa_cons (pe_cal C__law_spoilt (hr.mono (by decide)) (pa_cons (pv 0) (pa_cons (pv 1) pa_nil))) pa_nil)) (ht := mcall_of (abase_call (by decide +kernel)) (fun _ => rfl))) (pa_cons pe_bl pa_nil)))))
      (pss_one (ps_ret pe_bl))
      pss_nil)))
    (pss_one (ps_ret pe_bl))))))), ?_⟩
    walk_at "rd"
    show spPool K _ _ _ _
    unfold spPool
    refine ⟨rfl, fun pl npl => ?_⟩
    have s1 := same_new npl (o := .tup (POOL.map V.str))
    have hpl := upd_same (H := H) (a := pl) (o := .tup (POOL.map V.str))
    have hA1 := src_same hA s1
    generalize upd H pl (.tup (POOL.map V.str)) = H1 at s1 hpl hA1 ⊢
    walk_at "rd"
    refine fun k dk nk ndk ne => ?_
    obtain ⟨u1, hk1⟩ := bare_new (C := C) nk ndk ne
    generalize upd (upd H1 dk (.own k)) k (.ins C dk []) = H2 at u1 hk1 ⊢
    refine ⟨k, dk, [], rfl, hk1, rfl, ?_⟩
    have s2 := s1.trans u1
    walk_at "rd"
    refine iv hk1 (Bx.Same.tup u1 (sqt hpl)) (dp_same s2 hp) (mo.okS fun z hz => mo.sub.subset hz) fun H3 s3 => ?_
    walk_at "rd"
    refine ib ?_
    walk_at "rd"
    have s03 := s2.trans s3
    refine fun k2 dk2 nk2 ndk2 ne2 => ?_
    obtain ⟨u2, hk2⟩ := bare_new (C := C) nk2 ndk2 ne2
    generalize upd (upd H3 dk2 (.own k2)) k2 (.ins C dk2 []) = H4 at u2 hk2 ⊢
    refine ⟨k2, dk2, [], rfl, hk2, rfl, ?_⟩
    have s04 := s03.trans u2
    have M4 := M.same s04
    walk_at "rd"
    refine ⟨_, _, _, _, rfl, rfl, M4.t, atI_nat (j := 0) rfl, ?_⟩
    walk_at "rd"
    refine iv hk2 M4.n (dp_mc M4) (mo.okS fun z hz => hz) fun H5 s5 => ?_
    walk_at "rd"
    refine ib ?_
    have s05 := s04.trans s5
    have s15 := u1.trans (s3.trans (u2.trans s5))
    have M5 := M.same s05
    have hA5 := src_same hA s05
    walk_at "rd"
    refine ⟨_, _, _, _, rfl, rfl, M5.t, atI_nat (j := 0) rfl, ?_⟩
    refine ⟨pn, rfl, ⟨_, M5.n⟩, for_it (walk_tup (K := K) (a := pn) (xs := m.ns.map V.str)) (fun i σ H' => ∃ (o3 o5 : Option V), σ = [some (.ref src), some (.ref p), some (.ref pl), o3, none, o5, none] ∧ Same H5 H') ⟨none, none, rfl, Same.refl _⟩ (fun i σ H' _ ⟨_, _, _, s⟩ => Bx.Same.tup s M5.n) ?_ ?_⟩
    · rintro i x σ H6a H6 hi ⟨o3, o5, rfl, s6⟩ ⟨rfl, hx⟩
      obtain ⟨z, hz, rfl⟩ := at_map hx
      have zm := List.mem_of_getElem? hz
      have hpl6 : SqT K H6 pl (POOL.map V.str) := Bx.Same.tup (s15.trans s6) (sqt hpl)
      walk_at "rd"
      refine ⟨⟨_, hpl6⟩, fun D nD => ?_⟩
      refine lc_it walk_tup (fun j H' => H' = upd H6 D (.lst (((POOL.take j).filter fun y => !decide (y = z)).map V.str))) rfl (fun j H' _ e => e ▸ Bx.Same.tup (same_new nD) hpl6) ?_ ?_
      · rintro j v H8a H8 hj rfl ⟨rfl, hx8⟩
        obtain ⟨y, hy, rfl⟩ := at_map hx8
        have fl : ((POOL.take j).filter fun y => !decide (y = z)).length ≤ 4 := Nat.le_trans (List.length_filter_le _ _) (List.length_take_le' j POOL)
        refine ⟨rfl, ?_⟩
        walk_at "rd"
        rw [dec_str]
        cases h1 : decide (y = z) with
        | true =>
          have h2 : (!decide (y = z)) = false := by rw [h1]; rfl
          show upd H6 D _ = upd H6 D _
          rw [List.take_add_one, hy, List.filter_append, Option.toList_some, List.filter_cons, h2, if_neg Bool.false_ne_true, List.filter_nil, List.append_nil]
        | false =>
          have h2 : (!decide (y = z)) = true := by rw [h1]; rfl
          walk_at "rd"
          refine ⟨_, upd_same, szl (by rw [List.length_map]; omega), ?_⟩
          rw [upd_upd, List.take_add_one, hy, List.filter_append, Option.toList_some, List.filter_cons, h2, if_pos rfl, List.filter_nil, List.map_append]
          rfl
      rintro H8 rfl
      rw [List.length_map, List.take_length]
      have s8 := same_new nD (o := .lst ((POOL.filter fun y => !decide (y = z)).map V.str))
      have hD8 := upd_same (H := H6) (a := D) (o := .lst ((POOL.filter fun y => !decide (y = z)).map V.str))
      generalize upd H6 D (.lst ((POOL.filter fun y => !decide (y = z)).map V.str)) = H8 at s8 hD8 ⊢
      walk_at "rd"
      refine ⟨D, _, rfl, .inl ⟨sq hD8, fun ta nta => ?_⟩⟩
      have s9 := same_new nta (o := .tup ((POOL.filter fun y => !decide (y = z)).map V.str))
      have hta := upd_same (H := H8) (a := ta) (o := .tup ((POOL.filter fun y => !decide (y = z)).map V.str))
      generalize upd H8 ta (.tup ((POOL.filter fun y => !decide (y = z)).map V.str)) = H9 at s9 hta ⊢
      walk_at "rd"
      refine fun k3 dk3 nk3 ndk3 ne3 => ?_
      obtain ⟨u3, hk3⟩ := bare_new (C := C) nk3 ndk3 ne3
      generalize upd (upd H9 dk3 (.own k3)) k3 (.ins C dk3 []) = H10 at u3 hk3 ⊢
      refine ⟨k3, dk3, [], rfl, hk3, rfl, ?_⟩
      have s610 := s8.trans (s9.trans u3)
      walk_at "rd"
      refine iv (b := false) hk3 (Bx.Same.tup u3 (sqt hta)) (dp_mc (M5.same (s6.trans s610))) (Bool.eq_false_iff.mpr fun e => ?_) fun H11 s11 => ?_
      · have z2 := (List.mem_filter.mp ((okM_iff.mp e).sub z zm)).2
        simp at z2
      walk_at "rd"
      refine ib ?_
      walk_at "rd"
      exact ⟨_, _, rfl, s6.trans (s610.trans s11)⟩
    · rintro σ H6 ⟨o3, o5, rfl, s6⟩
      have hA6 := src_same hA5 s6
      have hpl6 : SqT K H6 pl (POOL.map V.str) := Bx.Same.tup (s15.trans s6) (sqt hpl)
      have dp6 := dp_mc (M5.same s6)
      have b06 : SameBut src H H6 := Bx.Same.but (s05.trans s6)
      walk_at "rd"
      refine ⟨by decide, by decide, for_it walk_range (fun i σ H' => ∃ (o4 : Option V), σ = [some (.ref src), some (.ref p), some (.ref pl), o3, o4, o5, none] ∧ SameBut src H6 H' ∧ Src H' src) ⟨none, rfl, SameBut.refl _ _, hA6⟩ (fun _ _ _ _ _ => trivial) ?_ ?_⟩
      · rintro i x σ H7a H7 hi ⟨o4, rfl, b7, hA7⟩ ⟨rfl, rfl⟩
        have tk7 := tk_but (K := K) hA6 b7
        walk_at "rd"
        refine fun k3 dk3 nk3 ndk3 ne3 => ?_
        obtain ⟨u3, hk3⟩ := bare_new (C := C) nk3 ndk3 ne3
        have hA8 := src_same hA7 u3
        have ks : k3 ≠ src := (src_ne hA7 nk3).symm
        generalize upd (upd H7 dk3 (.own k3)) k3 (.ins C dk3 []) = H8 at u3 hk3 hA8 ⊢
        refine ⟨k3, dk3, [], rfl, hk3, rfl, ?_⟩
        walk_at "rd"
        show spSpoil K _ _ _ _
        unfold spSpoil
        refine ⟨src, p, m, rfl, hA8, dp_same u3 (dp_tk tk7 _ _ (tup_mc m) dp6), mo, fun v m' H9 b9 hA9 dv bad => ?_⟩
        obtain ⟨p2, _, _, _, _, rfl, _⟩ := mc_dp dv
        walk_at "rd"
        have sv : ∀ {Q' : VK}, (∀ H', Same H9 H' → Q' (.bl false) H') → spSV K C [.ref k3, .ref pl, .ref p2] H9 Q' E0 := fun {Q'} q' => by
          unfold spSV
          refine ⟨k3, dk3, pl, p2, [], POOL, m', rfl, b9 _ _ ks hk3, rfl, sqt_but hA8 b9 (Bx.Same.tup u3 (tk7 _ _ hpl6)), dv, bad.nl, bad.ok, bad.rl, bad.el, bad.rr, fun H' s' => ?_⟩
          rw [bad.no]
          exact q' H' s'
        refine sv fun H10 s10 => ?_
        walk_at "rd"
        refine ib ?_
        walk_at "rd"
        exact ⟨b7.trans ((Bx.Same.but u3).trans (b9.trans (Bx.Same.but s10))), src_same hA9 s10⟩
      · rintro σ H7 ⟨o4, rfl, b7, hA7⟩
        walk_at "rd"
        exact q H7 (b06.trans b7) hA7
end
end K36
namespace K36
local macro_rules | `(tactic| walk_at "rd") => `(tactic| repeat (first | refine ⟨rfl, ?_⟩ | refine ⟨_, rfl, ?_⟩ | refine ⟨_, _, rfl, rfl, ?_⟩ | refine ⟨⟨_, rfl⟩, ?_⟩))
open PySem PySem.Spec PyProof.Rows L2 Bx TL Dx Zx Ow Sup NdefX Px
section
variable {P : Program} {w : World} {K : PySem.W.Frag} {mg : Str → Option Value} {base : Heap}
def spLaw (K : PySem.W.Frag) : Sp := fun vs H Q _ => ∃ (a : Addr) (ns : List Int), vs = [.ref a] ∧ SqL K H a (ns.map V.int) ∧ ns.length ≤ 63 ∧ ∀ H', Q (.bl true) H'
set_option maxHeartbeats 4000000 in
theorem ok_law {C : Addr} {mc uW : Value} {f : Addr} {fd : FuncData} (F : Fun K "law" "law" s_law f fd) (m_len : mg "len" = none) (m_range : mg "range" = none) (g_Words : mg "Words" = some (.ref C)) (rdW : ClX.CRead K C mc) (cvW : ClX.CVal K C mc "WORD" (.str (Str.ofString "words")) uW)
    (C__law_source : Cal P w K mg base "_law_source" 1 ["_law_script", "_law_k"] (spSource K)) (C__law_draw : CDraw P w K mg base) (C__law_machine : Cal P w K mg base "_law_machine" 2 ["_law_source_here"] (spMach K)) (C__law_words : Cal P w K mg base "_law_words" 2 ["_law_source_here"] (spWords K)) (C__law_table : Cal P w K mg base "_law_table" 2 ["_law_source_here"] (spTab K))
    (C__law_reading_right : Cal P w K mg base "_law_reading_right" 4 ["_law_machine_here", "_law_words_here", "_law_numbers"] (spRead K)) (C__law_valid_right : Cal P w K mg base "_law_valid_right" 5 ["_law_source_here", "_law_machine_here"] (spVR K)) (C__law_rename_right : Cal P w K mg base "_law_rename_right" 6 ["_law_machine_here", "_law_other", "_law_table_here"] (spRR K)) : FnOk P w K mg base CX0 7 f fd ["_law_script"] (spLaw K) := by
  refine F.ok sc_law (fun vs H Q E h => ?_) (fun cdv A outer s H vs Q E hr h => ?_)
  · unfold spLaw at h
    obtain ⟨a, ns, rfl, _⟩ := h
    rfl
  · unfold spLaw at h
    obtain ⟨sa, sc, rfl, hs, hsl, q⟩ := h
    refine ⟨_, (pss_cons (ps_set (i := 1) sc_law.nd rfl (Or.inl rfl) (pe_cal C__law_source (hr.mono (by decide)) (pa_cons (pv 0) (pa_cons pe_int pa_nil))))
    (pss_cons (ps_set (i := 2) sc_law.nd rfl (Or.inl rfl) (pe_cal C__law_machine (hr.mono (by decide)) (pa_cons (pv 1) pa_nil)))
    (pss_cons (ps_set (i := 3) sc_law.nd rfl (Or.inl rfl) (pe_cal C__law_words (hr.mono (by decide)) (pa_cons (pe_cal C__law_source (hr.mono (by decide)) (pa_cons (pv 0) (pa_cons pe_int pa_nil))) pa_nil)))
    (pss_cons (ps_set (i := 4) sc_law.nd rfl (Or.inl rfl) (pe_cal C__law_machine (hr.mono (by decide)) (pa_cons (pe_cal C__law_source (hr.mono (by decide)) (pa_cons (pv 0) (pa_cons pe_int pa_nil))) pa_nil)))
    (pss_cons (ps_if (pt_cmpR op_ne (ClX.pe_cval (pe_glob (v := .ref C) rfl g_Words rfl)) pe_str (nomark _))
      (pss_one (ps_ret pe_bl))
      pss_nil)
    (pss_cons (ps_set (i := 5) sc_law.nd rfl (Or.inl rfl) (pe_lst pa_nil))
    (pss_cons (ps_for PassesOwn.never rfl (pi_range1 (by rfl) m_range (pa_cons (pe_cal C__law_draw (hr.mono (by decide)) (pa_cons (pv 1) (pa_cons pe_int pa_nil))) pa_nil)) (pg_name (i := 6) sc_law.nd rfl (Or.inl rfl))
      (pss_one (ps_expr (pe_bm PySem.F.plainAttrs_list PySem.F.slot_list_append PySem.F.type_list_append mt_append (pv 5) (pa_cons (pe_cal C__law_draw (hr.mono (by decide)) (pa_cons (pv 1) (pa_cons (pe_ix ix_list (pe_lst (pa_cons pe_int (pa_cons pe_int (pa_cons pe_int (pa_cons pe_int pa_nil))))) (pe_callB call_len_seq (by rfl) m_len PySem.boot_len (pa_cons (pe_ix ix_tup (pv 2) pe_int (fun _ _ => rfl)) pa_nil)) (fun _ _ => rfl)) pa_nil))) pa_nil)))))
    (pss_cons (ps_if (pt_not (pt_val (pe_cal C__law_reading_right (hr.mono (by decide)) (pa_cons (pv 2) (pa_cons (pv 3) (pa_cons (pv 5) pa_nil))))))
      (pss_one (ps_ret pe_bl))
      pss_nil)
    (pss_cons (ps_if (pt_not (pt_val (pe_cal C__law_reading_right (hr.mono (by decide)) (pa_cons (pv 4) (pa_cons (pv 3) (pa_cons (pe_lst pa_nil) pa_nil))))))
      (pss_one (ps_ret pe_bl))
      pss_nil)
    (pss_cons (ps_if (pt_not (pt_val (pe_cal C__law_valid_right (hr.mono (by decide)) (pa_cons (pe_cal C__law_source (hr.mono (by decide)) (pa_cons (pv 0) (pa_cons pe_int pa_nil))) (pa_cons (pv 2) pa_nil)))))
      (pss_one (ps_ret pe_bl))
      pss_nil)
    (pss_one (ps_ret (pe_cal C__law_rename_right (hr.mono (by decide)) (pa_cons (pv 2) (pa_cons (pv 4) (pa_cons (pe_cal C__law_table (hr.mono (by decide)) (pa_cons (pe_cal C__law_source (hr.mono (by decide)) (pa_cons (pv 0) (pa_cons pe_int pa_nil))) pa_nil)) pa_nil)))))))))))))))), ?_⟩
    walk_at "rd"
    refine ⟨sa, sc, 0, rfl, hs, by decide, fun s0 n0 c0 ns0 => ?_⟩
    have u0 := same_new ns0 (o := .lst [.int n0, .int c0])
    have hA0 : Src (upd H s0 (.lst [.int n0, .int c0])) s0 := ⟨n0, c0, upd_same⟩
    generalize upd H s0 (.lst [.int n0, .int c0]) = H1 at u0 hA0 ⊢
    walk_at "rd"
    show spMach K _ _ _ _
    unfold spMach
    refine ⟨s0, rfl, hA0, fun v1 m1 H2 b2 hA2 dv1 mo1 => ?_⟩
    obtain ⟨p1, pn1, pm1, pe1, xs1, rfl, M1⟩ := mc_dp dv1
    have u2 : Same H H2 := Bx.SameBut.same u0 ns0 b2
    walk_at "rd"
    refine ⟨sa, sc, 1, rfl, Same.seq u2 hs, by decide, fun s1 n1 c1 ns1 => ?_⟩
    have u3 := same_new ns1 (o := .lst [.int n1, .int c1])
    have hA3 : Src (upd H2 s1 (.lst [.int n1, .int c1])) s1 := ⟨n1, c1, upd_same⟩
    generalize upd H2 s1 (.lst [.int n1, .int c1]) = H3 at u3 hA3 ⊢
    walk_at "rd"
    show spWords K _ _ _ _
    unfold spWords
    refine ⟨s1, rfl, hA3, fun d n ws H4 b4 hA4 hd4 wo => ?_⟩
    have u24 : Same H2 H4 := Bx.SameBut.same u3 ns1 b4
    walk_at "rd"
    refine ⟨sa, sc, 2, rfl, Same.seq (u2.trans u24) hs, by decide, fun s2 n2 c2 ns2 => ?_⟩
    have u5 := same_new ns2 (o := .lst [.int n2, .int c2])
    have hA5 : Src (upd H4 s2 (.lst [.int n2, .int c2])) s2 := ⟨n2, c2, upd_same⟩
    generalize upd H4 s2 (.lst [.int n2, .int c2]) = H5 at u5 hA5 ⊢
    walk_at "rd"
    refine ⟨hA5, fun v2 m2 H6 b6 hA6 dv2 mo2 => ?_⟩
    obtain ⟨p2, pn2, pm2, pe2, xs2, rfl, M2⟩ := mc_dp dv2
    have u46 : Same H4 H6 := Bx.SameBut.same u5 ns2 b6
    have u26 := u24.trans u46
    have u06 := u2.trans u26
    have M16 := M1.same u26
    have hd6 := u46 _ _ hd4
    have hA06 : Src H6 s0 := src_same hA2 u26
    have ds0 : d ≠ s0 := fun e => by
      obtain ⟨x, y, z⟩ := hA06
      rw [e, z] at hd6
      cases hd6
    walk_at "rd"
    refine ⟨C, mc, _, uW, rfl, rdW, cvW, ?_⟩
    walk_at "rd"
    refine ⟨sz (by decide), fun N nN => ?_⟩
    have u7 := same_new nN (o := .lst ([] : List V))
    have hN7 := upd_same (H := H6) (a := N) (o := .lst ([] : List V))
    have hA7 := src_same hA06 u7
    have nNs := src_ne hA06 nN
    generalize upd H6 N (.lst []) = H7 at u7 hN7 hA7 ⊢
    have n3 := mo1.n3
    have p8 : 2 ^ m1.ns.length ≤ 8 := Nat.pow_le_pow_right (by decide) n3
    have p0 : 0 < 2 ^ m1.ns.length := Nat.pow_pos (by decide)
    have pw := pows n3
    generalize hW : 2 ^ m1.ns.length = W at p8 p0 pw
    walk_at "rd"
    refine draw_of (lim := 10) hA7 (by decide) fun r8 H8 h80 h81 b8 hA8 => ?_
    have hN8 := b8 _ _ nNs.symm hN7
    walk_at "rd"
    refine ⟨by omega, by omega, for_it walk_range (fun i σ H' => ∃ (o6 : Option V) (ks : List Nat), σ = [some (.ref sa), some (.ref s0), some (.ref p1), some (.ref d), some (.ref p2), some (.ref N), o6] ∧ SameBut s0 H6 H' ∧ Src H' s0 ∧ H' N = some (.lst (ks.map natV)) ∧ ks.length = i ∧ ∀ k ∈ ks, k < W)
      ⟨none, [], rfl, (Bx.Same.but u7).trans b8, hA8, hN8, rfl, fun k hk => (by cases hk)⟩ (fun _ _ _ _ _ => trivial) ?_ ?_⟩
    · rintro i x σ H9a H9 hi ⟨o6, ks, rfl, b9, hA9, hN9, kl, kb⟩ ⟨rfl, rfl⟩
      walk_at "rd"
      refine ⟨.inl ⟨rfl, _, sq hN9⟩, ?_⟩
      walk_at "rd"
      refine ⟨sz (by show 4 ≤ 100000; decide), fun L4 nL4 => ?_⟩
      have u10 := same_new nL4 (o := .lst [V.int 1, .int 2, .int 4, .int 8])
      have hL4 := upd_same (H := H9) (a := L4) (o := .lst [V.int 1, .int 2, .int 4, .int 8])
      have hA10 := src_same hA9 u10
      have hN10 := u10 _ _ hN9
      generalize upd H9 L4 (.lst [V.int 1, .int 2, .int 4, .int 8]) = H10 at u10 hL4 hA10 hN10 ⊢
      have b10 := b9.trans (Bx.Same.but u10)
      walk_at "rd"
      refine ⟨_, _, _, _, rfl, rfl, sqt_but hA06 b10 M16.t, atI_nat (j := 0) rfl, ?_⟩
      refine ⟨pn1, _, rfl, .inr (sqt_but hA06 b10 M16.n), ?_⟩
      refine ⟨_, _, _, _, rfl, rfl, sq hL4, by rw [List.length_map]; exact atI_nat pw, ?_⟩
      refine draw_of (lim := ((W : Nat) : Int)) hA10 ⟨by omega, by omega⟩ fun r H11 r0 r1 b11 hA11 => ?_
      obtain ⟨j, rfl⟩ := Int.eq_ofNat_of_zero_le r0
      have hN11 := b11 _ _ nNs.symm hN10
      walk_at "rd"
      refine ⟨N, _, _, rfl, rfl, hN11, szl (by rw [List.length_map]; omega), ?_⟩
      refine ⟨_, ks ++ [j], rfl, but_at nN (b10.trans b11), src_upd hA11 nNs, by rw [upd_same, List.map_append]; rfl, by rw [List.length_append, kl]; rfl, fun k hk => ?_⟩
      rcases List.mem_append.mp hk with h | h
      · exact kb k h
      · rw [List.mem_singleton.mp h]
        omega
    · rintro σ H9 ⟨o6, ks, rfl, b9, hA9, hN9, kl, kb⟩
      have d19 := dp_tk (tk_but (K := K) hA06 b9) _ _ (tup_mc m1) (dp_mc M16)
      have d29 := dp_tk (tk_but (K := K) hA06 b9) _ _ (tup_mc m2) dv2
      have hd9 := b9 _ _ ds0 hd6
      have u09 : SqL K H9 sa (sc.map V.int) := Same.seq (Bx.SameBut.same u0 ns0 (b2.trans ((Bx.Same.but u26).trans b9))) hs
      walk_at "rd"
      show spRead K _ _ _ _
      unfold spRead
      refine ⟨p1, d, N, m1, n, ws, ks, rfl, d19, mo1.ok, hd9, wo, hN9, fun k hk => by rw [hW]; exact kb k hk, by omega, fun H10 s10 => ?_⟩
      walk_at "rd"
      refine ⟨sz (by decide), fun e1 ne1 => ?_⟩
      have s11 := same_new ne1 (o := .lst ([] : List V))
      have he1 := upd_same (H := H10) (a := e1) (o := .lst ([] : List V))
      generalize upd H10 e1 (.lst []) = H11 at s11 he1 ⊢
      have s911 := s10.trans s11
      walk_at "rd"
      refine ⟨p2, d, e1, m2, n, ws, [], rfl, dp_same s911 d29, mo2.ok, s911 _ _ hd9, wo, he1, (fun k hk => by cases hk), Nat.zero_le _, fun H12 s12 => ?_⟩
      have s912 := s911.trans s12
      walk_at "rd"
      refine ⟨sa, sc, 3, rfl, Same.seq s912 u09, by decide, fun s3 n3' c3 ns3 => ?_⟩
      have u13 := same_new ns3 (o := .lst [.int n3', .int c3])
      have hA13 : Src (upd H12 s3 (.lst [.int n3', .int c3])) s3 := ⟨n3', c3, upd_same⟩
      generalize upd H12 s3 (.lst [.int n3', .int c3]) = H13 at u13 hA13 ⊢
      walk_at "rd"
      show spVR K _ _ _ _
      unfold spVR
      refine ⟨s3, p1, m1, rfl, hA13, dp_same (s912.trans u13) d19, mo1, fun H14 b14 hA14 => ?_⟩
      have u914 : Same H9 H14 := s912.trans (Bx.SameBut.same u13 ns3 b14)
      walk_at "rd"
      refine ⟨sa, sc, 4, rfl, Same.seq u914 u09, by decide, fun s4 n4 c4 ns4 => ?_⟩
      have u15 := same_new ns4 (o := .lst [.int n4, .int c4])
      have hA15 : Src (upd H14 s4 (.lst [.int n4, .int c4])) s4 := ⟨n4, c4, upd_same⟩
      generalize upd H14 s4 (.lst [.int n4, .int c4]) = H15 at u15 hA15 ⊢
      walk_at "rd"
      show spTab K _ _ _ _
      unfold spTab
      refine ⟨s4, rfl, hA15, fun d2 t H16 b16 hA16 hd16 to => ?_⟩
      have u916 : Same H9 H16 := u914.trans (Bx.SameBut.same u15 ns4 b16)
      walk_at "rd"
      show spRR K _ _ _ _
      unfold spRR
      exact ⟨p1, p2, d2, m1, m2, t, rfl, dp_same u916 d19, dp_same u916 d29, mo1.ok, mo2.ok, mo1.sub, mo2.sub, by have := mo1.s4; omega, by have := mo2.s4; omega, hd16, to, fun H17 _ => q H17⟩
end
end K36
namespace K36
open PySem PySem.Spec PyProof.Rows L2 Bx TL Dx Zx Ow Sup NdefX Px
theorem cread_mk {K : PySem.W.Frag} {C : Addr} (a : PySem.W.nsIn K cStatics "thirdparty.any" = some none) (t : PySem.W.typeIn K (.ref C) = some (.type "type")) (ga : PySem.W.findIn K (.type "type") "__getattribute__" = some (some (.builtin "type.__getattribute__"))) (s : PySem.W.subIn K (.type "type") (.type "type") = some true) : ClX.CRead K C (.type "type") := by
  refine ⟨?_, ?_⟩
  · unfold PySem.W.readsIn
    rw [a, t, ga, s]
    rfl
  · unfold PySem.W.specialIn
    rw [t]
    exact ga
theorem cval_mk {K : PySem.W.Frag} {C : Addr} {z : Str} {tW : Tok} (tm : PySem.W.findIn K (.type "type") "WORD" = some none) (cb : PySem.W.findIn K (.ref C) "WORD" = some (some (.str z tW))) (ty : PySem.W.typeIn K (.str z tW) = some (.type "str")) (sg : PySem.W.specialIn K (.str z tW) "__get__" = some none) : PySem.W.findCls K (.ref C) (.type "type") "WORD" = some (.val (.str z tW)) := by
  unfold PySem.W.findCls
  rw [tm]
  simp only [Option.bind_some, cb, ty, sg]
  rfl
set_option maxHeartbeats 4000000 in
theorem all_mk {l : PySem.W.OpenLaw} {w : World} {K : PySem.W.Frag} {h : Heap} {mg : Str → Option Value} {fa : Addr} (X : K.In h) (G : h.Ns mainGlobals mg) (hfa : mg "law" = some (.ref fa))
    {C CK : Addr} {cdC : ClassData}
    {tW : Tok}
    {f_kind : Addr} {oc_kind kV_kind dc_kind pm_kind cd_kind ct_kind : Value} {od_kind an_kind : Option Addr} {sl_kind : Array (Option Value)}
    {fV ccV cdaV : Addr} {ocV kVV dcV pmV ctV clV cclV : Value} {odV anV cldV cddV : Option Addr} {oslV cslV ccsV : Array (Option Value)} {vsV : Array Value} {fileV : Str} {tfV : Tok}
    {f_Mnames_in : Addr} {oc_Mnames_in kV_Mnames_in dc_Mnames_in pm_Mnames_in cd_Mnames_in ct_Mnames_in : Value} {od_Mnames_in an_Mnames_in : Option Addr} {sl_Mnames_in : Array (Option Value)}
    {f_Mholds : Addr} {oc_Mholds kV_Mholds dc_Mholds pm_Mholds cd_Mholds ct_Mholds : Value} {od_Mholds an_Mholds : Option Addr} {sl_Mholds : Array (Option Value)}
    {f_Mrename : Addr} {oc_Mrename kV_Mrename dc_Mrename pm_Mrename cd_Mrename ct_Mrename : Value} {od_Mrename an_Mrename : Option Addr} {sl_Mrename : Array (Option Value)}
    {f__number_of : Addr} {oc__number_of kV__number_of dc__number_of pm__number_of cd__number_of ct__number_of : Value} {od__number_of an__number_of : Option Addr} {sl__number_of : Array (Option Value)}
    {f_column_numbers : Addr} {oc_column_numbers kV_column_numbers dc_column_numbers pm_column_numbers cd_column_numbers ct_column_numbers : Value} {od_column_numbers an_column_numbers : Option Addr} {sl_column_numbers : Array (Option Value)}
    {f_run : Addr} {oc_run kV_run dc_run pm_run cd_run ct_run : Value} {od_run an_run : Option Addr} {sl_run : Array (Option Value)}
    {f_is_ascending : Addr} {oc_is_ascending kV_is_ascending dc_is_ascending pm_is_ascending cd_is_ascending ct_is_ascending : Value} {od_is_ascending an_is_ascending : Option Addr} {sl_is_ascending : Array (Option Value)}
    {f_replace_names : Addr} {oc_replace_names kV_replace_names dc_replace_names pm_replace_names cd_replace_names ct_replace_names : Value} {od_replace_names an_replace_names : Option Addr} {sl_replace_names : Array (Option Value)}
    {f_merge_names : Addr} {oc_merge_names kV_merge_names dc_merge_names pm_merge_names cd_merge_names ct_merge_names : Value} {od_merge_names an_merge_names : Option Addr} {sl_merge_names : Array (Option Value)}
    {f_own_columns : Addr} {oc_own_columns kV_own_columns dc_own_columns pm_own_columns cd_own_columns ct_own_columns : Value} {od_own_columns an_own_columns : Option Addr} {sl_own_columns : Array (Option Value)}
    {f_spread_moves : Addr} {oc_spread_moves kV_spread_moves dc_spread_moves pm_spread_moves cd_spread_moves ct_spread_moves : Value} {od_spread_moves an_spread_moves : Option Addr} {sl_spread_moves : Array (Option Value)}
    {f_rearranged_machine : Addr} {oc_rearranged_machine kV_rearranged_machine dc_rearranged_machine pm_rearranged_machine cd_rearranged_machine ct_rearranged_machine : Value} {od_rearranged_machine an_rearranged_machine : Option Addr} {sl_rearranged_machine : Array (Option Value)}
    {f__law_source : Addr} {oc__law_source kV__law_source dc__law_source pm__law_source cd__law_source ct__law_source : Value} {od__law_source an__law_source : Option Addr} {sl__law_source : Array (Option Value)}
    {f__law_draw : Addr} {oc__law_draw kV__law_draw dc__law_draw pm__law_draw cd__law_draw ct__law_draw : Value} {od__law_draw an__law_draw : Option Addr} {sl__law_draw : Array (Option Value)}
    {f__law_pool : Addr} {oc__law_pool kV__law_pool dc__law_pool pm__law_pool cd__law_pool ct__law_pool : Value} {od__law_pool an__law_pool : Option Addr} {sl__law_pool : Array (Option Value)}
    {f__law_machine : Addr} {oc__law_machine kV__law_machine dc__law_machine pm__law_machine cd__law_machine ct__law_machine : Value} {od__law_machine an__law_machine : Option Addr} {sl__law_machine : Array (Option Value)}
    {f__law_words : Addr} {oc__law_words kV__law_words dc__law_words pm__law_words cd__law_words ct__law_words : Value} {od__law_words an__law_words : Option Addr} {sl__law_words : Array (Option Value)}
    {f__law_columns : Addr} {oc__law_columns kV__law_columns dc__law_columns pm__law_columns cd__law_columns ct__law_columns : Value} {od__law_columns an__law_columns : Option Addr} {sl__law_columns : Array (Option Value)}
    {f__law_last : Addr} {oc__law_last kV__law_last dc__law_last pm__law_last cd__law_last ct__law_last : Value} {od__law_last an__law_last : Option Addr} {sl__law_last : Array (Option Value)}
    {f__law_is_int : Addr} {oc__law_is_int kV__law_is_int dc__law_is_int pm__law_is_int cd__law_is_int ct__law_is_int : Value} {od__law_is_int an__law_is_int : Option Addr} {sl__law_is_int : Array (Option Value)}
    {f__law_same_row : Addr} {oc__law_same_row kV__law_same_row dc__law_same_row pm__law_same_row cd__law_same_row ct__law_same_row : Value} {od__law_same_row an__law_same_row : Option Addr} {sl__law_same_row : Array (Option Value)}
    {f__law_is_bool : Addr} {oc__law_is_bool kV__law_is_bool dc__law_is_bool pm__law_is_bool cd__law_is_bool ct__law_is_bool : Value} {od__law_is_bool an__law_is_bool : Option Addr} {sl__law_is_bool : Array (Option Value)}
    {f__law_reading_right : Addr} {oc__law_reading_right kV__law_reading_right dc__law_reading_right pm__law_reading_right cd__law_reading_right ct__law_reading_right : Value} {od__law_reading_right an__law_reading_right : Option Addr} {sl__law_reading_right : Array (Option Value)}
    {f__law_spoilt : Addr} {oc__law_spoilt kV__law_spoilt dc__law_spoilt pm__law_spoilt cd__law_spoilt ct__law_spoilt : Value} {od__law_spoilt an__law_spoilt : Option Addr} {sl__law_spoilt : Array (Option Value)}
    {f__law_valid_right : Addr} {oc__law_valid_right kV__law_valid_right dc__law_valid_right pm__law_valid_right cd__law_valid_right ct__law_valid_right : Value} {od__law_valid_right an__law_valid_right : Option Addr} {sl__law_valid_right : Array (Option Value)}
    {f__law_table : Addr} {oc__law_table kV__law_table dc__law_table pm__law_table cd__law_table ct__law_table : Value} {od__law_table an__law_table : Option Addr} {sl__law_table : Array (Option Value)}
    {f__law_letters : Addr} {oc__law_letters kV__law_letters dc__law_letters pm__law_letters cd__law_letters ct__law_letters : Value} {od__law_letters an__law_letters : Option Addr} {sl__law_letters : Array (Option Value)}
    {f__law_renamed : Addr} {oc__law_renamed kV__law_renamed dc__law_renamed pm__law_renamed cd__law_renamed ct__law_renamed : Value} {od__law_renamed an__law_renamed : Option Addr} {sl__law_renamed : Array (Option Value)}
    {f__law_same_machine : Addr} {oc__law_same_machine kV__law_same_machine dc__law_same_machine pm__law_same_machine cd__law_same_machine ct__law_same_machine : Value} {od__law_same_machine an__law_same_machine : Option Addr} {sl__law_same_machine : Array (Option Value)}
    {f__law_rename_right : Addr} {oc__law_rename_right kV__law_rename_right dc__law_rename_right pm__law_rename_right cd__law_rename_right ct__law_rename_right : Value} {od__law_rename_right an__law_rename_right : Option Addr} {sl__law_rename_right : Array (Option Value)}
    {f_law : Addr} {oc_law kV_law dc_law pm_law cd_law ct_law : Value} {od_law an_law : Option Addr} {sl_law : Array (Option Value)}
    (aC : PySem.W.nsIn K mainGlobals "Words" = some (some (.ref C)))
    (aK : PySem.W.nsIn K mainGlobals "Kind" = some (some (.ref CK)))
    (pg : PySem.W.plainGet K C Str.empty = true)
    (hd : PySem.W.hasDictIn K C = true)
    (po : PySem.W.plainOver K C = true)
    (sa : PySem.W.findIn K (.ref C) "__setattr__" = some (some (.builtin "object.__setattr__")))
    (mk : PySem.W.makesIn K C = true)
    (kc : PySem.W.keepIn K (.ref C) = true)
    (ini : PySem.W.findIn K (.ref C) "__init__" = some (some (.builtin "object.__init__")))
    (tyC : PySem.W.typeIn K (.ref C) = some (.type "type"))
    (tga : PySem.W.findIn K (.type "type") "__getattribute__" = some (some (.builtin "type.__getattribute__")))
    (tsub : PySem.W.subIn K (.type "type") (.type "type") = some true)
    (tmW : PySem.W.findIn K (.type "type") "WORD" = some none)
    (cbW : PySem.W.findIn K (.ref C) "WORD" = some (some (.str (Str.ofString "words") tW)))
    (sgW : PySem.W.specialIn K (.str (Str.ofString "words") tW) "__get__" = some none)
    (ttW : PySem.W.typeIn K (.str (Str.ofString "words") tW) = some (.type "str"))
    (p_top : (l.prog.main.scope.names.lookup ("super" : Str)).isSome = false)
    (z_super : PySem.W.nsIn K mainGlobals "super" = some none)
    (any_ : PySem.W.nsIn K cStatics "thirdparty.any" = some none)
    (a_kind : PySem.W.findIn K (.ref CK) "is_valid" = some (some (.ref f_kind))) (l_kind : K.lookup f_kind = some ⟨oc_kind, od_kind, .func (PySem.W.fnOf "is_valid" "Kind.is_valid" (defArgs s_Kind_is_valid) (defBody s_Kind_is_valid) (defScope s_Kind_is_valid) .none kV_kind dc_kind pm_kind an_kind cd_kind ct_kind), sl_kind⟩) (c_kind : PySem.W.codeIn K cd_kind "Kind.is_valid" = true) (k_kind : PySem.W.keepIn K (.ref f_kind) = true)
    (cdC_ : PySem.W.clsIn K C = some cdC)
    (mC : PySem.W.mroIn K C (.ref C) = some true)
    (sC : PySem.W.ks_superIn K C C "is_valid" = some (some (.ref f_kind)))
    (tg : PySem.W.typeIn K (.ref f_kind) = some (.type "function"))
    (fg : PySem.W.fnIn K f_kind = true)
    (i_V : PySem.W.findIn K (.ref C) "is_valid" = some (some (.ref fV)))
    (l_V : K.lookup fV = some ⟨ocV, odV, .func (PySem.W.fnX "is_valid" "Words.is_valid" (defArgs s_Words_is_valid) (defBody s_Words_is_valid) (defScope s_Words_is_valid) [(("__class__" : Str), ccV)] .none kVV dcV pmV anV (.ref cdaV) ctV), oslV⟩)
    (c_V : PySem.W.codeIn K (.ref cdaV) "Words.is_valid" = true)
    (l_ccV : K.lookup ccV = some ⟨clV, cldV, .cell (some (.ref C)), cslV⟩)
    (l_cdaV : K.lookup cdaV = some ⟨cclV, cddV, .fields vsV, ccsV⟩)
    (v_cdaV : vsV[2]? = some (.str fileV tfV))
    (p_fileV : ((l.prog.main.file : Str) == fileV) = true)
    (iV : PySem.W.isFn K (.ref fV) = true)
    (kV_ : PySem.W.keepIn K (.ref fV) = true)
    (a_Mnames_in : PySem.W.findIn K (.ref C) "names_in" = some (some (.ref f_Mnames_in))) (l_Mnames_in : K.lookup f_Mnames_in = some ⟨oc_Mnames_in, od_Mnames_in, .func (PySem.W.fnOf "names_in" "Words.names_in" (defArgs s_Words_names_in) (defBody s_Words_names_in) (defScope s_Words_names_in) .none kV_Mnames_in dc_Mnames_in pm_Mnames_in an_Mnames_in cd_Mnames_in ct_Mnames_in), sl_Mnames_in⟩) (c_Mnames_in : PySem.W.codeIn K cd_Mnames_in "Words.names_in" = true) (k_Mnames_in : PySem.W.keepIn K (.ref f_Mnames_in) = true)
    (i_Mnames_in : PySem.W.isFn K (.ref f_Mnames_in) = true)
    (a_Mholds : PySem.W.findIn K (.ref C) "holds" = some (some (.ref f_Mholds))) (l_Mholds : K.lookup f_Mholds = some ⟨oc_Mholds, od_Mholds, .func (PySem.W.fnOf "holds" "Words.holds" (defArgs s_Words_holds) (defBody s_Words_holds) (defScope s_Words_holds) .none kV_Mholds dc_Mholds pm_Mholds an_Mholds cd_Mholds ct_Mholds), sl_Mholds⟩) (c_Mholds : PySem.W.codeIn K cd_Mholds "Words.holds" = true) (k_Mholds : PySem.W.keepIn K (.ref f_Mholds) = true)
    (i_Mholds : PySem.W.isFn K (.ref f_Mholds) = true)
    (a_Mrename : PySem.W.findIn K (.ref C) "rename" = some (some (.ref f_Mrename))) (l_Mrename : K.lookup f_Mrename = some ⟨oc_Mrename, od_Mrename, .func (PySem.W.fnOf "rename" "Words.rename" (defArgs s_Words_rename) (defBody s_Words_rename) (defScope s_Words_rename) .none kV_Mrename dc_Mrename pm_Mrename an_Mrename cd_Mrename ct_Mrename), sl_Mrename⟩) (c_Mrename : PySem.W.codeIn K cd_Mrename "Words.rename" = true) (k_Mrename : PySem.W.keepIn K (.ref f_Mrename) = true)
    (i_Mrename : PySem.W.isFn K (.ref f_Mrename) = true)
    (a__number_of : PySem.W.nsIn K mainGlobals "_number_of" = some (some (.ref f__number_of))) (l__number_of : K.lookup f__number_of = some ⟨oc__number_of, od__number_of, .func (PySem.W.fnOf "_number_of" "_number_of" (defArgs s__number_of) (defBody s__number_of) (defScope s__number_of) .none kV__number_of dc__number_of pm__number_of an__number_of cd__number_of ct__number_of), sl__number_of⟩) (c__number_of : PySem.W.codeIn K cd__number_of "_number_of" = true) (k__number_of : PySem.W.keepIn K (.ref f__number_of) = true)
    (a_column_numbers : PySem.W.nsIn K mainGlobals "column_numbers" = some (some (.ref f_column_numbers))) (l_column_numbers : K.lookup f_column_numbers = some ⟨oc_column_numbers, od_column_numbers, .func (PySem.W.fnOf "column_numbers" "column_numbers" (defArgs s_column_numbers) (defBody s_column_numbers) (defScope s_column_numbers) .none kV_column_numbers dc_column_numbers pm_column_numbers an_column_numbers cd_column_numbers ct_column_numbers), sl_column_numbers⟩) (c_column_numbers : PySem.W.codeIn K cd_column_numbers "column_numbers" = true) (k_column_numbers : PySem.W.keepIn K (.ref f_column_numbers) = true)
    (a_run : PySem.W.nsIn K mainGlobals "run" = some (some (.ref f_run))) (l_run : K.lookup f_run = some ⟨oc_run, od_run, .func (PySem.W.fnOf "run" "run" (defArgs s_run) (defBody s_run) (defScope s_run) .none kV_run dc_run pm_run an_run cd_run ct_run), sl_run⟩) (c_run : PySem.W.codeIn K cd_run "run" = true) (k_run : PySem.W.keepIn K (.ref f_run) = true)
    (a_is_ascending : PySem.W.nsIn K mainGlobals "is_ascending" = some (some (.ref f_is_ascending))) (l_is_ascending : K.lookup f_is_ascending = some ⟨oc_is_ascending, od_is_ascending, .func (PySem.W.fnOf "is_ascending" "is_ascending" (defArgs s_is_ascending) (defBody s_is_ascending) (defScope s_is_ascending) .none kV_is_ascending dc_is_ascending pm_is_ascending an_is_ascending cd_is_ascending ct_is_ascending), sl_is_ascending⟩) (c_is_ascending : PySem.W.codeIn K cd_is_ascending "is_ascending" = true) (k_is_ascending : PySem.W.keepIn K (.ref f_is_ascending) = true)
    (a_replace_names : PySem.W.nsIn K mainGlobals "replace_names" = some (some (.ref f_replace_names))) (l_replace_names : K.lookup f_replace_names = some ⟨oc_replace_names, od_replace_names, .func (PySem.W.fnOf "replace_names" "replace_names" (defArgs s_replace_names) (defBody s_replace_names) (defScope s_replace_names) .none kV_replace_names dc_replace_names pm_replace_names an_replace_names cd_replace_names ct_replace_names), sl_replace_names⟩) (c_replace_names : PySem.W.codeIn K cd_replace_names "replace_names" = true) (k_replace_names : PySem.W.keepIn K (.ref f_replace_names) = true)
    (a_merge_names : PySem.W.nsIn K mainGlobals "merge_names" = some (some (.ref f_merge_names))) (l_merge_names : K.lookup f_merge_names = some ⟨oc_merge_names, od_merge_names, .func (PySem.W.fnOf "merge_names" "merge_names" (defArgs s_merge_names) (defBody s_merge_names) (defScope s_merge_names) .none kV_merge_names dc_merge_names pm_merge_names an_merge_names cd_merge_names ct_merge_names), sl_merge_names⟩) (c_merge_names : PySem.W.codeIn K cd_merge_names "merge_names" = true) (k_merge_names : PySem.W.keepIn K (.ref f_merge_names) = true)
    (a_own_columns : PySem.W.nsIn K mainGlobals "own_columns" = some (some (.ref f_own_columns))) (l_own_columns : K.lookup f_own_columns = some ⟨oc_own_columns, od_own_columns, .func (PySem.W.fnOf "own_columns" "own_columns" (defArgs s_own_columns) (defBody s_own_columns) (defScope s_own_columns) .none kV_own_columns dc_own_columns pm_own_columns an_own_columns cd_own_columns ct_own_columns), sl_own_columns⟩) (c_own_columns : PySem.W.codeIn K cd_own_columns "own_columns" = true) (k_own_columns : PySem.W.keepIn K (.ref f_own_columns) = true)
    (a_spread_moves : PySem.W.nsIn K mainGlobals "spread_moves" = some (some (.ref f_spread_moves))) (l_spread_moves : K.lookup f_spread_moves = some ⟨oc_spread_moves, od_spread_moves, .func (PySem.W.fnOf "spread_moves" "spread_moves" (defArgs s_spread_moves) (defBody s_spread_moves) (defScope s_spread_moves) .none kV_spread_moves dc_spread_moves pm_spread_moves an_spread_moves cd_spread_moves ct_spread_moves), sl_spread_moves⟩) (c_spread_moves : PySem.W.codeIn K cd_spread_moves "spread_moves" = true) (k_spread_moves : PySem.W.keepIn K (.ref f_spread_moves) = true)
    (a_rearranged_machine : PySem.W.nsIn K mainGlobals "rearranged_machine" = some (some (.ref f_rearranged_machine))) (l_rearranged_machine : K.lookup f_rearranged_machine = some ⟨oc_rearranged_machine, od_rearranged_machine, .func (PySem.W.fnOf "rearranged_machine" "rearranged_machine" (defArgs s_rearranged_machine) (defBody s_rearranged_machine) (defScope s_rearranged_machine) .none kV_rearranged_machine dc_rearranged_machine pm_rearranged_machine an_rearranged_machine cd_rearranged_machine ct_rearranged_machine), sl_rearranged_machine⟩) (c_rearranged_machine : PySem.W.codeIn K cd_rearranged_machine "rearranged_machine" = true) (k_rearranged_machine : PySem.W.keepIn K (.ref f_rearranged_machine) = true)
    (a__law_source : PySem.W.nsIn K mainGlobals "_law_source" = some (some (.ref f__law_source))) (l__law_source : K.lookup f__law_source = some ⟨oc__law_source, od__law_source, .func (PySem.W.fnOf "_law_source" "_law_source" (defArgs s__law_source) (defBody s__law_source) (defScope s__law_source) .none kV__law_source dc__law_source pm__law_source an__law_source cd__law_source ct__law_source), sl__law_source⟩) (c__law_source : PySem.W.codeIn K cd__law_source "_law_source" = true) (k__law_source : PySem.W.keepIn K (.ref f__law_source) = true)
    (a__law_draw : PySem.W.nsIn K mainGlobals "_law_draw" = some (some (.ref f__law_draw))) (l__law_draw : K.lookup f__law_draw = some ⟨oc__law_draw, od__law_draw, .func (PySem.W.fnOf "_law_draw" "_law_draw" (defArgs s__law_draw) (defBody s__law_draw) (defScope s__law_draw) .none kV__law_draw dc__law_draw pm__law_draw an__law_draw cd__law_draw ct__law_draw), sl__law_draw⟩) (c__law_draw : PySem.W.codeIn K cd__law_draw "_law_draw" = true) (k__law_draw : PySem.W.keepIn K (.ref f__law_draw) = true)
    (a__law_pool : PySem.W.nsIn K mainGlobals "_law_pool" = some (some (.ref f__law_pool))) (l__law_pool : K.lookup f__law_pool = some ⟨oc__law_pool, od__law_pool, .func (PySem.W.fnOf "_law_pool" "_law_pool" (defArgs s__law_pool) (defBody s__law_pool) (defScope s__law_pool) .none kV__law_pool dc__law_pool pm__law_pool an__law_pool cd__law_pool ct__law_pool), sl__law_pool⟩) (c__law_pool : PySem.W.codeIn K cd__law_pool "_law_pool" = true) (k__law_pool : PySem.W.keepIn K (.ref f__law_pool) = true)
    (a__law_machine : PySem.W.nsIn K mainGlobals "_law_machine" = some (some (.ref f__law_machine))) (l__law_machine : K.lookup f__law_machine = some ⟨oc__law_machine, od__law_machine, .func (PySem.W.fnOf "_law_machine" "_law_machine" (defArgs s__law_machine) (defBody s__law_machine) (defScope s__law_machine) .none kV__law_machine dc__law_machine pm__law_machine an__law_machine cd__law_machine ct__law_machine), sl__law_machine⟩) (c__law_machine : PySem.W.codeIn K cd__law_machine "_law_machine" = true) (k__law_machine : PySem.W.keepIn K (.ref f__law_machine) = true)
    (a__law_words : PySem.W.nsIn K mainGlobals "_law_words" = some (some (.ref f__law_words))) (l__law_words : K.lookup f__law_words = some ⟨oc__law_words, od__law_words, .func (PySem.W.fnOf "_law_words" "_law_words" (defArgs s__law_words) (defBody s__law_words) (defScope s__law_words) .none kV__law_words dc__law_words pm__law_words an__law_words cd__law_words ct__law_words), sl__law_words⟩) (c__law_words : PySem.W.codeIn K cd__law_words "_law_words" = true) (k__law_words : PySem.W.keepIn K (.ref f__law_words) = true)
    (a__law_columns : PySem.W.nsIn K mainGlobals "_law_columns" = some (some (.ref f__law_columns))) (l__law_columns : K.lookup f__law_columns = some ⟨oc__law_columns, od__law_columns, .func (PySem.W.fnOf "_law_columns" "_law_columns" (defArgs s__law_columns) (defBody s__law_columns) (defScope s__law_columns) .none kV__law_columns dc__law_columns pm__law_columns an__law_columns cd__law_columns ct__law_columns), sl__law_columns⟩) (c__law_columns : PySem.W.codeIn K cd__law_columns "_law_columns" = true) (k__law_columns : PySem.W.keepIn K (.ref f__law_columns) = true)
    (a__law_last : PySem.W.nsIn K mainGlobals "_law_last" = some (some (.ref f__law_last))) (l__law_last : K.lookup f__law_last = some ⟨oc__law_last, od__law_last, .func (PySem.W.fnOf "_law_last" "_law_last" (defArgs s__law_last) (defBody s__law_last) (defScope s__law_last) .none kV__law_last dc__law_last pm__law_last an__law_last cd__law_last ct__law_last), sl__law_last⟩) (c__law_last : PySem.W.codeIn K cd__law_last "_law_last" = true) (k__law_last : PySem.W.keepIn K (.ref f__law_last) = true)
    (a__law_is_int : PySem.W.nsIn K mainGlobals "_law_is_int" = some (some (.ref f__law_is_int))) (l__law_is_int : K.lookup f__law_is_int = some ⟨oc__law_is_int, od__law_is_int, .func (PySem.W.fnOf "_law_is_int" "_law_is_int" (defArgs s__law_is_int) (defBody s__law_is_int) (defScope s__law_is_int) .none kV__law_is_int dc__law_is_int pm__law_is_int an__law_is_int cd__law_is_int ct__law_is_int), sl__law_is_int⟩) (c__law_is_int : PySem.W.codeIn K cd__law_is_int "_law_is_int" = true) (k__law_is_int : PySem.W.keepIn K (.ref f__law_is_int) = true)
    (a__law_same_row : PySem.W.nsIn K mainGlobals "_law_same_row" = some (some (.ref f__law_same_row))) (l__law_same_row : K.lookup f__law_same_row = some ⟨oc__law_same_row, od__law_same_row, .func (PySem.W.fnOf "_law_same_row" "_law_same_row" (defArgs s__law_same_row) (defBody s__law_same_row) (defScope s__law_same_row) .none kV__law_same_row dc__law_same_row pm__law_same_row an__law_same_row cd__law_same_row ct__law_same_row), sl__law_same_row⟩) (c__law_same_row : PySem.W.codeIn K cd__law_same_row "_law_same_row" = true) (k__law_same_row : PySem.W.keepIn K (.ref f__law_same_row) = true)
    (a__law_is_bool : PySem.W.nsIn K mainGlobals "_law_is_bool" = some (some (.ref f__law_is_bool))) (l__law_is_bool : K.lookup f__law_is_bool = some ⟨oc__law_is_bool, od__law_is_bool, .func (PySem.W.fnOf "_law_is_bool" "_law_is_bool" (defArgs s__law_is_bool) (defBody s__law_is_bool) (defScope s__law_is_bool) .none kV__law_is_bool dc__law_is_bool pm__law_is_bool an__law_is_bool cd__law_is_bool ct__law_is_bool), sl__law_is_bool⟩) (c__law_is_bool : PySem.W.codeIn K cd__law_is_bool "_law_is_bool" = true) (k__law_is_bool : PySem.W.keepIn K (.ref f__law_is_bool) = true)
    (a__law_reading_right : PySem.W.nsIn K mainGlobals "_law_reading_right" = some (some (.ref f__law_reading_right))) (l__law_reading_right : K.lookup f__law_reading_right = some ⟨oc__law_reading_right, od__law_reading_right, .func (PySem.W.fnOf "_law_reading_right" "_law_reading_right" (defArgs s__law_reading_right) (defBody s__law_reading_right) (defScope s__law_reading_right) .none kV__law_reading_right dc__law_reading_right pm__law_reading_right an__law_reading_right cd__law_reading_right ct__law_reading_right), sl__law_reading_right⟩) (c__law_reading_right : PySem.W.codeIn K cd__law_reading_right "_law_reading_right" = true) (k__law_reading_right : PySem.W.keepIn K (.ref f__law_reading_right) = true)
    (a__law_spoilt : PySem.W.nsIn K mainGlobals "_law_spoilt" = some (some (.ref f__law_spoilt))) (l__law_spoilt : K.lookup f__law_spoilt = some ⟨oc__law_spoilt, od__law_spoilt, .func (PySem.W.fnOf "_law_spoilt" "_law_spoilt" (defArgs s__law_spoilt) (defBody s__law_spoilt) (defScope s__law_spoilt) .none kV__law_spoilt dc__law_spoilt pm__law_spoilt an__law_spoilt cd__law_spoilt ct__law_spoilt), sl__law_spoilt⟩) (c__law_spoilt : PySem.W.codeIn K cd__law_spoilt "_law_spoilt" = true) (k__law_spoilt : PySem.W.keepIn K (.ref f__law_spoilt) = true)
    (a__law_valid_right : PySem.W.nsIn K mainGlobals "_law_valid_right" = some (some (.ref f__law_valid_right))) (l__law_valid_right : K.lookup f__law_valid_right = some ⟨oc__law_valid_right, od__law_valid_right, .func (PySem.W.fnOf "_law_valid_right" "_law_valid_right" (defArgs s__law_valid_right) (defBody s__law_valid_right) (defScope s__law_valid_right) .none kV__law_valid_right dc__law_valid_right pm__law_valid_right an__law_valid_right cd__law_valid_right ct__law_valid_right), sl__law_valid_right⟩) (c__law_valid_right : PySem.W.codeIn K cd__law_valid_right "_law_valid_right" = true) (k__law_valid_right : PySem.W.keepIn K (.ref f__law_valid_right) = true)
    (a__law_table : PySem.W.nsIn K mainGlobals "_law_table" = some (some (.ref f__law_table))) (l__law_table : K.lookup f__law_table = some ⟨oc__law_table, od__law_table, .func (PySem.W.fnOf "_law_table" "_law_table" (defArgs s__law_table) (defBody s__law_table) (defScope s__law_table) .none kV__law_table dc__law_table pm__law_table an__law_table cd__law_table ct__law_table), sl__law_table⟩) (c__law_table : PySem.W.codeIn K cd__law_table "_law_table" = true) (k__law_table : PySem.W.keepIn K (.ref f__law_table) = true)
    (a__law_letters : PySem.W.nsIn K mainGlobals "_law_letters" = some (some (.ref f__law_letters))) (l__law_letters : K.lookup f__law_letters = some ⟨oc__law_letters, od__law_letters, .func (PySem.W.fnOf "_law_letters" "_law_letters" (defArgs s__law_letters) (defBody s__law_letters) (defScope s__law_letters) .none kV__law_letters dc__law_letters pm__law_letters an__law_letters cd__law_letters ct__law_letters), sl__law_letters⟩) (c__law_letters : PySem.W.codeIn K cd__law_letters "_law_letters" = true) (k__law_letters : PySem.W.keepIn K (.ref f__law_letters) = true)
    (a__law_renamed : PySem.W.nsIn K mainGlobals "_law_renamed" = some (some (.ref f__law_renamed))) (l__law_renamed : K.lookup f__law_renamed = some ⟨oc__law_renamed, od__law_renamed, .func (PySem.W.fnOf "_law_renamed" "_law_renamed" (defArgs s__law_renamed) (defBody s__law_renamed) (defScope s__law_renamed) .none kV__law_renamed dc__law_renamed pm__law_renamed an__law_renamed cd__law_renamed ct__law_renamed), sl__law_renamed⟩) (c__law_renamed : PySem.W.codeIn K cd__law_renamed "_law_renamed" = true) (k__law_renamed : PySem.W.keepIn K (.ref f__law_renamed) = true)
    (a__law_same_machine : PySem.W.nsIn K mainGlobals "_law_same_machine" = some (some (.ref f__law_same_machine))) (l__law_same_machine : K.lookup f__law_same_machine = some ⟨oc__law_same_machine, od__law_same_machine, .func (PySem.W.fnOf "_law_same_machine" "_law_same_machine" (defArgs s__law_same_machine) (defBody s__law_same_machine) (defScope s__law_same_machine) .none kV__law_same_machine dc__law_same_machine pm__law_same_machine an__law_same_machine cd__law_same_machine ct__law_same_machine), sl__law_same_machine⟩) (c__law_same_machine : PySem.W.codeIn K cd__law_same_machine "_law_same_machine" = true) (k__law_same_machine : PySem.W.keepIn K (.ref f__law_same_machine) = true)
    (a__law_rename_right : PySem.W.nsIn K mainGlobals "_law_rename_right" = some (some (.ref f__law_rename_right))) (l__law_rename_right : K.lookup f__law_rename_right = some ⟨oc__law_rename_right, od__law_rename_right, .func (PySem.W.fnOf "_law_rename_right" "_law_rename_right" (defArgs s__law_rename_right) (defBody s__law_rename_right) (defScope s__law_rename_right) .none kV__law_rename_right dc__law_rename_right pm__law_rename_right an__law_rename_right cd__law_rename_right ct__law_rename_right), sl__law_rename_right⟩) (c__law_rename_right : PySem.W.codeIn K cd__law_rename_right "_law_rename_right" = true) (k__law_rename_right : PySem.W.keepIn K (.ref f__law_rename_right) = true)
    (a_law : PySem.W.nsIn K mainGlobals "law" = some (some (.ref f_law))) (l_law : K.lookup f_law = some ⟨oc_law, od_law, .func (PySem.W.fnOf "law" "law" (defArgs s_law) (defBody s_law) (defScope s_law) .none kV_law dc_law pm_law an_law cd_law ct_law), sl_law⟩) (c_law : PySem.W.codeIn K cd_law "law" = true) (k_law : PySem.W.keepIn K (.ref f_law) = true)
    (z_tuple : PySem.W.nsIn K mainGlobals "tuple" = some none)
    (z_range : PySem.W.nsIn K mainGlobals "range" = some none)
    (z_list : PySem.W.nsIn K mainGlobals "list" = some none)
    (z_set : PySem.W.nsIn K mainGlobals "set" = some none)
    (z_sorted : PySem.W.nsIn K mainGlobals "sorted" = some none)
    (z_len : PySem.W.nsIn K mainGlobals "len" = some none)
    (z_int : PySem.W.nsIn K mainGlobals "int" = some none)
    (z_isinstance : PySem.W.nsIn K mainGlobals "isinstance" = some none)
    (z_bool : PySem.W.nsIn K mainGlobals "bool" = some none)
    (z_all : PySem.W.nsIn K mainGlobals "all" = some none)
    : ∃ fd : FuncData, (∀ (s : Shared) (v : Value), BindsTo s fd ⟨[v], []⟩ [("_law_script", v)]) ∧ ∀ base : Heap, K.In base → base.Ns mainGlobals mg → FnOk l.prog w K mg base CX0 7 fa fd ["_law_script"] (spLaw K) := by
  have e := hfa.symm.trans (PySem.W.mg_of X G a_law)
  cases e
  have F_kind := fun_mk (x := "is_valid") (qual := "Kind.is_valid") (st := s_Kind_is_valid) l_kind c_kind k_kind
  have b_kind := F_kind.binds (ps := ["self", "names", "constraint"]) fun _ _ _ _ _ _ us hl => match us, hl with | [_, _, _], _ => rfl
  have F_Mnames_in := fun_mk (x := "names_in") (qual := "Words.names_in") (st := s_Words_names_in) l_Mnames_in c_Mnames_in k_Mnames_in
  have b_Mnames_in := F_Mnames_in.binds (ps := ["self", "constraint"]) fun _ _ _ _ _ _ us hl => match us, hl with | [_, _], _ => rfl
  have F_Mholds := fun_mk (x := "holds") (qual := "Words.holds") (st := s_Words_holds) l_Mholds c_Mholds k_Mholds
  have b_Mholds := F_Mholds.binds (ps := ["self", "constraint", "assignment"]) fun _ _ _ _ _ _ us hl => match us, hl with | [_, _, _], _ => rfl
  have F_Mrename := fun_mk (x := "rename") (qual := "Words.rename") (st := s_Words_rename) l_Mrename c_Mrename k_Mrename
  have b_Mrename := F_Mrename.binds (ps := ["self", "theory", "table"]) fun _ _ _ _ _ _ us hl => match us, hl with | [_, _, _], _ => rfl
  have F__number_of := fun_mk (x := "_number_of") (qual := "_number_of") (st := s__number_of) l__number_of c__number_of k__number_of
  have b__number_of := F__number_of.binds (ps := ["letters"]) fun _ _ _ _ _ _ us hl => match us, hl with | [_], _ => rfl
  have F_column_numbers := fun_mk (x := "column_numbers") (qual := "column_numbers") (st := s_column_numbers) l_column_numbers c_column_numbers k_column_numbers
  have b_column_numbers := F_column_numbers.binds (ps := ["names", "assignment"]) fun _ _ _ _ _ _ us hl => match us, hl with | [_, _], _ => rfl
  have F_run := fun_mk (x := "run") (qual := "run") (st := s_run) l_run c_run k_run
  have b_run := F_run.binds (ps := ["machine", "numbers"]) fun _ _ _ _ _ _ us hl => match us, hl with | [_, _], _ => rfl
  have F_is_ascending := fun_mk (x := "is_ascending") (qual := "is_ascending") (st := s_is_ascending) l_is_ascending c_is_ascending k_is_ascending
  have b_is_ascending := F_is_ascending.binds (ps := ["values"]) fun _ _ _ _ _ _ us hl => match us, hl with | [_], _ => rfl
  have F_replace_names := fun_mk (x := "replace_names") (qual := "replace_names") (st := s_replace_names) l_replace_names c_replace_names k_replace_names
  have b_replace_names := F_replace_names.binds (ps := ["names", "table"]) fun _ _ _ _ _ _ us hl => match us, hl with | [_, _], _ => rfl
  have F_merge_names := fun_mk (x := "merge_names") (qual := "merge_names") (st := s_merge_names) l_merge_names c_merge_names k_merge_names
  have F_own_columns := fun_mk (x := "own_columns") (qual := "own_columns") (st := s_own_columns) l_own_columns c_own_columns k_own_columns
  have b_own_columns := F_own_columns.binds (ps := ["own", "names"]) fun _ _ _ _ _ _ us hl => match us, hl with | [_, _], _ => rfl
  have F_spread_moves := fun_mk (x := "spread_moves") (qual := "spread_moves") (st := s_spread_moves) l_spread_moves c_spread_moves k_spread_moves
  have b_spread_moves := F_spread_moves.binds (ps := ["machine", "names"]) fun _ _ _ _ _ _ us hl => match us, hl with | [_, _], _ => rfl
  have F_rearranged_machine := fun_mk (x := "rearranged_machine") (qual := "rearranged_machine") (st := s_rearranged_machine) l_rearranged_machine c_rearranged_machine k_rearranged_machine
  have b_rearranged_machine := F_rearranged_machine.binds (ps := ["machine", "table"]) fun _ _ _ _ _ _ us hl => match us, hl with | [_, _], _ => rfl
  have F__law_source := fun_mk (x := "_law_source") (qual := "_law_source") (st := s__law_source) l__law_source c__law_source k__law_source
  have b__law_source := F__law_source.binds (ps := ["_law_script", "_law_k"]) fun _ _ _ _ _ _ us hl => match us, hl with | [_, _], _ => rfl
  have F__law_draw := fun_mk (x := "_law_draw") (qual := "_law_draw") (st := s__law_draw) l__law_draw c__law_draw k__law_draw
  have b__law_draw := F__law_draw.binds (ps := ["_law_source_here", "_law_limit"]) fun _ _ _ _ _ _ us hl => match us, hl with | [_, _], _ => rfl
  have F__law_pool := fun_mk (x := "_law_pool") (qual := "_law_pool") (st := s__law_pool) l__law_pool c__law_pool k__law_pool
  have b__law_pool := F__law_pool.binds (ps := []) fun _ _ _ _ _ _ us hl => match us, hl with | [], _ => rfl
  have F__law_machine := fun_mk (x := "_law_machine") (qual := "_law_machine") (st := s__law_machine) l__law_machine c__law_machine k__law_machine
  have b__law_machine := F__law_machine.binds (ps := ["_law_source_here"]) fun _ _ _ _ _ _ us hl => match us, hl with | [_], _ => rfl
  have F__law_words := fun_mk (x := "_law_words") (qual := "_law_words") (st := s__law_words) l__law_words c__law_words k__law_words
  have b__law_words := F__law_words.binds (ps := ["_law_source_here"]) fun _ _ _ _ _ _ us hl => match us, hl with | [_], _ => rfl
  have F__law_columns := fun_mk (x := "_law_columns") (qual := "_law_columns") (st := s__law_columns) l__law_columns c__law_columns k__law_columns
  have b__law_columns := F__law_columns.binds (ps := ["_law_names", "_law_words_here"]) fun _ _ _ _ _ _ us hl => match us, hl with | [_, _], _ => rfl
  have F__law_last := fun_mk (x := "_law_last") (qual := "_law_last") (st := s__law_last) l__law_last c__law_last k__law_last
  have b__law_last := F__law_last.binds (ps := ["_law_machine_here", "_law_numbers"]) fun _ _ _ _ _ _ us hl => match us, hl with | [_, _], _ => rfl
  have F__law_is_int := fun_mk (x := "_law_is_int") (qual := "_law_is_int") (st := s__law_is_int) l__law_is_int c__law_is_int k__law_is_int
  have b__law_is_int := F__law_is_int.binds (ps := ["_law_actual", "_law_expected"]) fun _ _ _ _ _ _ us hl => match us, hl with | [_, _], _ => rfl
  have F__law_same_row := fun_mk (x := "_law_same_row") (qual := "_law_same_row") (st := s__law_same_row) l__law_same_row c__law_same_row k__law_same_row
  have b__law_same_row := F__law_same_row.binds (ps := ["_law_actual", "_law_expected"]) fun _ _ _ _ _ _ us hl => match us, hl with | [_, _], _ => rfl
  have F__law_is_bool := fun_mk (x := "_law_is_bool") (qual := "_law_is_bool") (st := s__law_is_bool) l__law_is_bool c__law_is_bool k__law_is_bool
  have b__law_is_bool := F__law_is_bool.binds (ps := ["_law_actual", "_law_expected"]) fun _ _ _ _ _ _ us hl => match us, hl with | [_, _], _ => rfl
  have F__law_reading_right := fun_mk (x := "_law_reading_right") (qual := "_law_reading_right") (st := s__law_reading_right) l__law_reading_right c__law_reading_right k__law_reading_right
  have b__law_reading_right := F__law_reading_right.binds (ps := ["_law_machine_here", "_law_words_here", "_law_numbers"]) fun _ _ _ _ _ _ us hl => match us, hl with | [_, _, _], _ => rfl
  have F__law_spoilt := fun_mk (x := "_law_spoilt") (qual := "_law_spoilt") (st := s__law_spoilt) l__law_spoilt c__law_spoilt k__law_spoilt
  have b__law_spoilt := F__law_spoilt.binds (ps := ["_law_source_here", "_law_machine_here"]) fun _ _ _ _ _ _ us hl => match us, hl with | [_, _], _ => rfl
  have F__law_valid_right := fun_mk (x := "_law_valid_right") (qual := "_law_valid_right") (st := s__law_valid_right) l__law_valid_right c__law_valid_right k__law_valid_right
  have b__law_valid_right := F__law_valid_right.binds (ps := ["_law_source_here", "_law_machine_here"]) fun _ _ _ _ _ _ us hl => match us, hl with | [_, _], _ => rfl
  have F__law_table := fun_mk (x := "_law_table") (qual := "_law_table") (st := s__law_table) l__law_table c__law_table k__law_table
  have b__law_table := F__law_table.binds (ps := ["_law_source_here"]) fun _ _ _ _ _ _ us hl => match us, hl with | [_], _ => rfl
  have F__law_letters := fun_mk (x := "_law_letters") (qual := "_law_letters") (st := s__law_letters) l__law_letters c__law_letters k__law_letters
  have b__law_letters := F__law_letters.binds (ps := ["_law_count"]) fun _ _ _ _ _ _ us hl => match us, hl with | [_], _ => rfl
  have F__law_renamed := fun_mk (x := "_law_renamed") (qual := "_law_renamed") (st := s__law_renamed) l__law_renamed c__law_renamed k__law_renamed
  have b__law_renamed := F__law_renamed.binds (ps := ["_law_machine_here", "_law_table_here"]) fun _ _ _ _ _ _ us hl => match us, hl with | [_, _], _ => rfl
  have F__law_same_machine := fun_mk (x := "_law_same_machine") (qual := "_law_same_machine") (st := s__law_same_machine) l__law_same_machine c__law_same_machine k__law_same_machine
  have b__law_same_machine := F__law_same_machine.binds (ps := ["_law_actual", "_law_expected"]) fun _ _ _ _ _ _ us hl => match us, hl with | [_, _], _ => rfl
  have F__law_rename_right := fun_mk (x := "_law_rename_right") (qual := "_law_rename_right") (st := s__law_rename_right) l__law_rename_right c__law_rename_right k__law_rename_right
  have b__law_rename_right := F__law_rename_right.binds (ps := ["_law_machine_here", "_law_other", "_law_table_here"]) fun _ _ _ _ _ _ us hl => match us, hl with | [_, _, _], _ => rfl
  have F_law := fun_mk (x := "law") (qual := "law") (st := s_law) l_law c_law k_law
  have m_tuple := PySem.W.mg_none_of X G z_tuple
  have m_range := PySem.W.mg_none_of X G z_range
  have m_list := PySem.W.mg_none_of X G z_list
  have m_set := PySem.W.mg_none_of X G z_set
  have m_sorted := PySem.W.mg_none_of X G z_sorted
  have m_len := PySem.W.mg_none_of X G z_len
  have m_int := PySem.W.mg_none_of X G z_int
  have m_isinstance := PySem.W.mg_none_of X G z_isinstance
  have m_bool := PySem.W.mg_none_of X G z_bool
  have m_all := PySem.W.mg_none_of X G z_all
  have cl : Cls K C := ⟨pg, hd, po, sa⟩
  have B_Words : Mk0.Bare K mg "Words" C := ⟨mk, ini, kc, PySem.W.mg_of X G aC⟩
  have T0 : SupM.SupA K C C "is_valid" f_kind := ⟨⟨cdC, cdC_⟩, mC, sC, tg, fg, by decide +kernel⟩
  refine ⟨PySem.W.fnOf "law" "law" (defArgs s_law) (defBody s_law) (defScope s_law) .none kV_law dc_law pm_law an_law cd_law ct_law, fun s v => .of_eq rfl, fun base _ _ => ?_⟩
  have C__number_of : Cal l.prog w K mg base "_number_of" 1 ["letters"] (spNum K) := ⟨_, _, ok_number_of (F := F__number_of) , PySem.W.mg_of X G a__number_of, F__number_of.kp, b__number_of⟩
  have C_column_numbers : Cal l.prog w K mg base "column_numbers" 2 ["names", "assignment"] (spCols K) := ⟨_, _, ok_column_numbers (F := F_column_numbers) (m_tuple := m_tuple) (m_range := m_range) (C__number_of := C__number_of), PySem.W.mg_of X G a_column_numbers, F_column_numbers.kp, b_column_numbers⟩
  have C_run : Cal l.prog w K mg base "run" 1 ["machine", "numbers"] (spRun K) := ⟨_, _, ok_run (F := F_run) , PySem.W.mg_of X G a_run, F_run.kp, b_run⟩
  have C_is_ascending : Cal l.prog w K mg base "is_ascending" 1 ["values"] (spAsc K) := ⟨_, _, ok_is_ascending (F := F_is_ascending) (m_list := m_list) (m_set := m_set) (m_sorted := m_sorted), PySem.W.mg_of X G a_is_ascending, F_is_ascending.kp, b_is_ascending⟩
  have C_replace_names : Cal l.prog w K mg base "replace_names" 1 ["names", "table"] (spRepl K) := ⟨_, _, ok_repl (F := F_replace_names) , PySem.W.mg_of X G a_replace_names, F_replace_names.kp, b_replace_names⟩
  have C_merge_names : CalR l.prog w K mg base "merge_names" 1 (spMerge K) := ⟨_, ok_merge_names (F := F_merge_names) (m_set := m_set) (m_sorted := m_sorted) (m_tuple := m_tuple), PySem.W.mg_of X G a_merge_names, F_merge_names.kp⟩
  have C_own_columns : Cal l.prog w K mg base "own_columns" 2 ["own", "names"] (spOwn K) := ⟨_, _, ok_own_columns (F := F_own_columns) (m_len := m_len) (m_range := m_range) (C__number_of := C__number_of), PySem.W.mg_of X G a_own_columns, F_own_columns.kp, b_own_columns⟩
  have C_spread_moves : Cal l.prog w K mg base "spread_moves" 3 ["machine", "names"] (spSpr K) := ⟨_, _, ok_spread (F := F_spread_moves) (C_own_columns := C_own_columns), PySem.W.mg_of X G a_spread_moves, F_spread_moves.kp, b_spread_moves⟩
  have C_rearranged_machine : Cal l.prog w K mg base "rearranged_machine" 4 ["machine", "table"] (spRearr K) := ⟨_, _, ok_rearranged (F := F_rearranged_machine) (m_tuple := m_tuple) (C_merge_names := C_merge_names) (C_spread_moves := C_spread_moves), PySem.W.mg_of X G a_rearranged_machine, F_rearranged_machine.kp, b_rearranged_machine⟩
  have M_names_in : MthC l.prog w K mg base C "names_in" 1 ["self", "constraint"] (spNI K) := ⟨_, _, cl, ⟨a_Mnames_in, i_Mnames_in, k_Mnames_in⟩, ok_names_in (F := F_Mnames_in) , b_Mnames_in⟩
  have M_holds : MthC l.prog w K mg base C "holds" 3 ["self", "constraint", "assignment"] (spHolds K) := ⟨_, _, cl, ⟨a_Mholds, i_Mholds, k_Mholds⟩, ok_holds (F := F_Mholds) (C_run := C_run) (C_column_numbers := C_column_numbers), b_Mholds⟩
  have M_rename : MthC l.prog w K mg base C "rename" 5 ["self", "theory", "table"] (spRen K) := ⟨_, _, cl, ⟨a_Mrename, i_Mrename, k_Mrename⟩, ok_rename (F := F_Mrename) (m_tuple := m_tuple) (C_rearranged_machine := C_rearranged_machine) (C_merge_names := C_merge_names) (C_replace_names := C_replace_names), b_Mrename⟩
  have F0 : FnR l.prog w K mg base CX0 2 f_kind (spKV K C) := FnR.imp (FnOk.raw (ok_kind_valid (C := C) (F := F_kind) (m_all := m_all) (M_names_in := M_names_in)) b_kind .nil) fun vs H Q E h => by rw [List.append_nil]; exact h
  have M_is_valid : MthC l.prog w K mg base C "is_valid" 4 ["self", "names", "constraint"] (spSV K C) := ⟨fV, _, cl, ⟨i_V, iV, kV_⟩, ok_valid m_all m_len C_is_ascending l_V c_V ⟨clV, cldV, cslV, l_ccV⟩ ⟨cclV, cddV, vsV, ccsV, fileV, tfV, l_cdaV, v_cdaV, p_fileV⟩ p_top (PySem.W.mg_none_of X G z_super) any_ T0 F0, Binds.all fun us hl => match us, hl with | [_, _, _], _ => rfl⟩
  have g_Words := PySem.W.mg_of X G aC
  have rdW := cread_mk any_ tyC tga tsub
  have cvW : ClX.CVal K C (.type "type") "WORD" (.str (Str.ofString "words")) (.str (Str.ofString "words") tW) := ⟨cval_mk tmW cbW ttW sgW, ⟨tW, rfl⟩⟩
  have C__law_source : Cal l.prog w K mg base "_law_source" 1 ["_law_script", "_law_k"] (spSource K) := ⟨_, _, ok_source (F := F__law_source) (m_len := m_len) (m_int := m_int), PySem.W.mg_of X G a__law_source, F__law_source.kp, b__law_source⟩
  have C__law_draw : Cal l.prog w K mg base "_law_draw" 1 ["_law_source_here", "_law_limit"] spDraw := ⟨_, _, ok_draw (F := F__law_draw) (m_int := m_int), PySem.W.mg_of X G a__law_draw, F__law_draw.kp, b__law_draw⟩
  have C__law_pool : Cal l.prog w K mg base "_law_pool" 1 [] (spPool K) := ⟨_, _, ok_pool (F := F__law_pool) , PySem.W.mg_of X G a__law_pool, F__law_pool.kp, b__law_pool⟩
  have C__law_machine : Cal l.prog w K mg base "_law_machine" 2 ["_law_source_here"] (spMach K) := ⟨_, _, ok_machine (F := F__law_machine) (m_tuple := m_tuple) (m_range := m_range) (m_len := m_len) (C__law_draw := C__law_draw) (C__law_pool := C__law_pool), PySem.W.mg_of X G a__law_machine, F__law_machine.kp, b__law_machine⟩
  have C__law_words : Cal l.prog w K mg base "_law_words" 2 ["_law_source_here"] (spWords K) := ⟨_, _, ok_words (F := F__law_words) (m_range := m_range) (C__law_draw := C__law_draw) (C__law_pool := C__law_pool), PySem.W.mg_of X G a__law_words, F__law_words.kp, b__law_words⟩
  have C__law_columns : Cal l.prog w K mg base "_law_columns" 2 ["_law_names", "_law_words_here"] (spLCols K) := ⟨_, _, ok_lcolumns (F := F__law_columns) (m_range := m_range), PySem.W.mg_of X G a__law_columns, F__law_columns.kp, b__law_columns⟩
  have C__law_last : Cal l.prog w K mg base "_law_last" 1 ["_law_machine_here", "_law_numbers"] (spLast K) := ⟨_, _, ok_last (F := F__law_last) , PySem.W.mg_of X G a__law_last, F__law_last.kp, b__law_last⟩
  have C__law_is_int : Cal l.prog w K mg base "_law_is_int" 1 ["_law_actual", "_law_expected"] spIsInt := ⟨_, _, ok_is_int (F := F__law_is_int) (m_isinstance := m_isinstance) (m_int := m_int) (m_bool := m_bool), PySem.W.mg_of X G a__law_is_int, F__law_is_int.kp, b__law_is_int⟩
  have C__law_same_row : Cal l.prog w K mg base "_law_same_row" 2 ["_law_actual", "_law_expected"] (spSameRow K) := ⟨_, _, ok_same_row (F := F__law_same_row) (m_isinstance := m_isinstance) (m_tuple := m_tuple) (m_len := m_len) (m_range := m_range) (C__law_is_int := C__law_is_int), PySem.W.mg_of X G a__law_same_row, F__law_same_row.kp, b__law_same_row⟩
  have C__law_is_bool : Cal l.prog w K mg base "_law_is_bool" 1 ["_law_actual", "_law_expected"] spIsBool := ⟨_, _, ok_is_bool (F := F__law_is_bool) (m_isinstance := m_isinstance) (m_bool := m_bool), PySem.W.mg_of X G a__law_is_bool, F__law_is_bool.kp, b__law_is_bool⟩
  have C__law_reading_right : Cal l.prog w K mg base "_law_reading_right" 4 ["_law_machine_here", "_law_words_here", "_law_numbers"] (spRead K) := ⟨_, _, ok_reading (F := F__law_reading_right) (m_sorted := m_sorted) (m_list := m_list) (m_tuple := m_tuple) (B_Words := B_Words) (C__law_columns := C__law_columns) (C__law_same_row := C__law_same_row) (C_column_numbers := C_column_numbers) (C__law_is_int := C__law_is_int) (C_run := C_run) (C__law_last := C__law_last) (C__law_is_bool := C__law_is_bool) (M_holds := M_holds) (M_names_in := M_names_in), PySem.W.mg_of X G a__law_reading_right, F__law_reading_right.kp, b__law_reading_right⟩
  have C__law_spoilt : Cal l.prog w K mg base "_law_spoilt" 2 ["_law_source_here", "_law_machine_here"] (spSpoil K) := ⟨_, _, ok_spoilt (F := F__law_spoilt) (m_list := m_list) (m_tuple := m_tuple) (m_len := m_len) (C__law_draw := C__law_draw), PySem.W.mg_of X G a__law_spoilt, F__law_spoilt.kp, b__law_spoilt⟩
  have C__law_valid_right : Cal l.prog w K mg base "_law_valid_right" 5 ["_law_source_here", "_law_machine_here"] (spVR K) := ⟨_, _, ok_valid_right (F := F__law_valid_right) (m_tuple := m_tuple) (m_range := m_range) (B_Words := B_Words) (C__law_pool := C__law_pool) (C__law_is_bool := C__law_is_bool) (M_is_valid := M_is_valid) (C__law_spoilt := C__law_spoilt), PySem.W.mg_of X G a__law_valid_right, F__law_valid_right.kp, b__law_valid_right⟩
  have C__law_table : Cal l.prog w K mg base "_law_table" 2 ["_law_source_here"] (spTab K) := ⟨_, _, ok_table (F := F__law_table) (m_len := m_len) (C__law_draw := C__law_draw) (C__law_pool := C__law_pool), PySem.W.mg_of X G a__law_table, F__law_table.kp, b__law_table⟩
  have C__law_letters : Cal l.prog w K mg base "_law_letters" 1 ["_law_count"] (spLet K) := ⟨_, _, ok_letters (F := F__law_letters) (m_range := m_range) (m_list := m_list), PySem.W.mg_of X G a__law_letters, F__law_letters.kp, b__law_letters⟩
  have C__law_renamed : Cal l.prog w K mg base "_law_renamed" 2 ["_law_machine_here", "_law_table_here"] (spLRen K) := ⟨_, _, ok_lrenamed (F := F__law_renamed) (m_sorted := m_sorted) (m_len := m_len) (m_tuple := m_tuple) (C__law_letters := C__law_letters), PySem.W.mg_of X G a__law_renamed, F__law_renamed.kp, b__law_renamed⟩
  have C__law_same_machine : Cal l.prog w K mg base "_law_same_machine" 3 ["_law_actual", "_law_expected"] (spSM K) := ⟨_, _, ok_same_machine (F := F__law_same_machine) (m_isinstance := m_isinstance) (m_tuple := m_tuple) (m_len := m_len) (m_range := m_range) (C__law_same_row := C__law_same_row), PySem.W.mg_of X G a__law_same_machine, F__law_same_machine.kp, b__law_same_machine⟩
  have C__law_rename_right : Cal l.prog w K mg base "_law_rename_right" 6 ["_law_machine_here", "_law_other", "_law_table_here"] (spRR K) := ⟨_, _, ok_rename_right (F := F__law_rename_right) (m_sorted := m_sorted) (m_isinstance := m_isinstance) (m_tuple := m_tuple) (m_len := m_len) (B_Words := B_Words) (M_rename := M_rename) (C__law_pool := C__law_pool) (C__law_same_machine := C__law_same_machine) (C__law_renamed := C__law_renamed), PySem.W.mg_of X G a__law_rename_right, F__law_rename_right.kp, b__law_rename_right⟩
  exact ok_law F_law (m_len := m_len) (m_range := m_range) (g_Words := g_Words) (rdW := rdW) (cvW := cvW) (C__law_source := C__law_source) (C__law_draw := C__law_draw) (C__law_machine := C__law_machine) (C__law_words := C__law_words) (C__law_table := C__law_table) (C__law_reading_right := C__law_reading_right) (C__law_valid_right := C__law_valid_right) (C__law_rename_right := C__law_rename_right)
end K36
open PySem PySem.W PyProof.Rows
set_option maxRecDepth 100000 in
set_option maxHeartbeats 0 in
theorem PySem.Challenge.cw_shadowlinks_k36_machines_read_holds : PySem.Challenge.rw_shadowlinks_k36_machines_read.Holds := by
  w_on; o_law; k_head; (case hw => w_witness2)
  k_fill
  refine L2.walk_of (l := PySem.Challenge.rw_shadowlinks_k36_machines_read) (n := 63) (k := 7) (x := "_law_script") (CX := fun _ => L2.CX0) (sp := fun w => K36.spLaw _) rfl (by decide) rfl ⟨rfl, by decide, by decide⟩ (fun w h Y => PySem.W.kIn_of Y) ?F (fun _ _ a ns hl _ hS => ⟨a, ns, rfl, hS, hl, fun _ => rfl⟩) (fun _ _ _ _ _ h => h)
  case F =>
    intro w mg fa h KX G hmg
    refine' K36.all_mk KX G hmg ?aC ?aK ?pg ?hd ?po ?sa ?mk ?kc ?ini ?tyC ?tga ?tsub ?tmW ?cbW ?sgW ?ttW ?p_top ?z_super ?any_ ?a_kind ?l_kind ?c_kind ?k_kind ?cdC_ ?mC ?sC ?tg ?fg ?i_V ?l_V ?c_V ?l_ccV ?l_cdaV ?v_cdaV ?p_fileV ?iV ?kV_ ?a_Mnames_in ?l_Mnames_in ?c_Mnames_in ?k_Mnames_in ?i_Mnames_in ?a_Mholds ?l_Mholds ?c_Mholds ?k_Mholds ?i_Mholds ?a_Mrename ?l_Mrename ?c_Mrename ?k_Mrename ?i_Mrename ?a__number_of ?l__number_of ?c__number_of ?k__number_of ?a_column_numbers ?l_column_numbers ?c_column_numbers ?k_column_numbers ?a_run ?l_run ?c_run ?k_run ?a_is_ascending ?l_is_ascending ?c_is_ascending ?k_is_ascending ?a_replace_names ?l_replace_names ?c_replace_names ?k_replace_names ?a_merge_names ?l_merge_names ?c_merge_names ?k_merge_names ?a_own_columns ?l_own_columns ?c_own_columns ?k_own_columns ?a_spread_moves ?l_spread_moves ?c_spread_moves ?k_spread_moves ?a_rearranged_machine ?l_rearranged_machine ?c_rearranged_machine ?k_rearranged_machine ?a__law_source ?l__law_source ?c__law_source ?k__law_source ?a__law_draw ?l__law_draw ?c__law_draw ?k__law_draw ?a__law_pool ?l__law_pool ?c__law_pool ?k__law_pool ?a__law_machine ?l__law_machine ?c__law_machine ?k__law_machine ?a__law_words ?l__law_words ?c__law_words ?k__law_words ?a__law_columns ?l__law_columns ?c__law_columns ?k__law_columns ?a__law_last ?l__law_last ?c__law_last ?k__law_last ?a__law_is_int ?l__law_is_int ?c__law_is_int ?k__law_is_int ?a__law_same_row ?l__law_same_row ?c__law_same_row ?k__law_same_row ?a__law_is_bool ?l__law_is_bool ?c__law_is_bool ?k__law_is_bool ?a__law_reading_right ?l__law_reading_right ?c__law_reading_right ?k__law_reading_right ?a__law_spoilt ?l__law_spoilt ?c__law_spoilt ?k__law_spoilt ?a__law_valid_right ?l__law_valid_right ?c__law_valid_right ?k__law_valid_right ?a__law_table ?l__law_table ?c__law_table ?k__law_table ?a__law_letters ?l__law_letters ?c__law_letters ?k__law_letters ?a__law_renamed ?l__law_renamed ?c__law_renamed ?k__law_renamed ?a__law_same_machine ?l__law_same_machine ?c__law_same_machine ?k__law_same_machine ?a__law_rename_right ?l__law_rename_right ?c__law_rename_right ?k__law_rename_right ?a_law ?l_law ?c_law ?k_law ?z_tuple ?z_range ?z_list ?z_set ?z_sorted ?z_len ?z_int ?z_isinstance ?z_bool ?z_all
    (case aC => k_is)
    (case aK => k_is)
    (case pg => k_is)
    (case hd => k_is)
    (case po => k_is)
    (case sa => k_is)
    (case mk => k_is)
    (case kc => k_is)
    (case ini => k_is)
    (case tyC => k_is)
    (case tga => k_is)
    (case tsub => k_is)
    (case tmW => k_is)
    (case cbW => k_is)
    (case sgW => k_is)
    (case ttW => k_is)
    (case p_top => rfl)
    (case z_super => k_is)
    (case any_ => k_is)
    (case a_kind => k_is)
    (case l_kind => k_is)
    (case c_kind => k_is)
    (case k_kind => k_is)
    (case cdC_ => k_is)
    (case mC => k_is)
    (case sC => ks_is)
    (case tg => k_is)
    (case fg => k_is)
    (case i_V => k_is)
    (case l_V => k_is)
    (case c_V => k_is)
    (case l_ccV => k_is)
    (case l_cdaV => k_is)
    (case v_cdaV => rfl)
    (case p_fileV => rfl)
    (case iV => k_is)
    (case kV_ => k_is)
    (case a_Mnames_in => k_is)
    (case l_Mnames_in => k_is)
    (case c_Mnames_in => k_is)
    (case k_Mnames_in => k_is)
    (case i_Mnames_in => k_is)
    (case a_Mholds => k_is)
    (case l_Mholds => k_is)
    (case c_Mholds => k_is)
    (case k_Mholds => k_is)
    (case i_Mholds => k_is)
    (case a_Mrename => k_is)
    (case l_Mrename => k_is)
    (case c_Mrename => k_is)
    (case k_Mrename => k_is)
    (case i_Mrename => k_is)
    (case a__number_of => k_is)
    (case l__number_of => k_is)
    (case c__number_of => k_is)
    (case k__number_of => k_is)
    (case a_column_numbers => k_is)
    (case l_column_numbers => k_is)
    (case c_column_numbers => k_is)
    (case k_column_numbers => k_is)
    (case a_run => k_is)
    (case l_run => k_is)
    (case c_run => k_is)
    (case k_run => k_is)
    (case a_is_ascending => k_is)
    (case l_is_ascending => k_is)
    (case c_is_ascending => k_is)
    (case k_is_ascending => k_is)
    (case a_replace_names => k_is)
    (case l_replace_names => k_is)
    (case c_replace_names => k_is)
    (case k_replace_names => k_is)
    (case a_merge_names => k_is)
    (case l_merge_names => k_is)
    (case c_merge_names => k_is)
    (case k_merge_names => k_is)
    (case a_own_columns => k_is)
    (case l_own_columns => k_is)
    (case c_own_columns => k_is)
    (case k_own_columns => k_is)
    (case a_spread_moves => k_is)
    (case l_spread_moves => k_is)
    (case c_spread_moves => k_is)
    (case k_spread_moves => k_is)
    (case a_rearranged_machine => k_is)
    (case l_rearranged_machine => k_is)
    (case c_rearranged_machine => k_is)
    (case k_rearranged_machine => k_is)
    (case a__law_source => k_is)
    (case l__law_source => k_is)
    (case c__law_source => k_is)
    (case k__law_source => k_is)
    (case a__law_draw => k_is)
    (case l__law_draw => k_is)
    (case c__law_draw => k_is)
    (case k__law_draw => k_is)
    (case a__law_pool => k_is)
    (case l__law_pool => k_is)
    (case c__law_pool => k_is)
    (case k__law_pool => k_is)
    (case a__law_machine => k_is)
    (case l__law_machine => k_is)
    (case c__law_machine => k_is)
    (case k__law_machine => k_is)
    (case a__law_words => k_is)
    (case l__law_words => k_is)
    (case c__law_words => k_is)
    (case k__law_words => k_is)
    (case a__law_columns => k_is)
    (case l__law_columns => k_is)
    (case c__law_columns => k_is)
    (case k__law_columns => k_is)
    (case a__law_last => k_is)
    (case l__law_last => k_is)
    (case c__law_last => k_is)
    (case k__law_last => k_is)
    (case a__law_is_int => k_is)
    (case l__law_is_int => k_is)
    (case c__law_is_int => k_is)
    (case k__law_is_int => k_is)
    (case a__law_same_row => k_is)
    (case l__law_same_row => k_is)
    (case c__law_same_row => k_is)
    (case k__law_same_row => k_is)
    (case a__law_is_bool => k_is)
    (case l__law_is_bool => k_is)
    (case c__law_is_bool => k_is)
    (case k__law_is_bool => k_is)
    (case a__law_reading_right => k_is)
    (case l__law_reading_right => k_is)
    (case c__law_reading_right => k_is)
    (case k__law_reading_right => k_is)
    (case a__law_spoilt => k_is)
    (case l__law_spoilt => k_is)
    (case c__law_spoilt => k_is)
    (case k__law_spoilt => k_is)
    (case a__law_valid_right => k_is)
    (case l__law_valid_right => k_is)
    (case c__law_valid_right => k_is)
    (case k__law_valid_right => k_is)
    (case a__law_table => k_is)
    (case l__law_table => k_is)
    (case c__law_table => k_is)
    (case k__law_table => k_is)
    (case a__law_letters => k_is)
    (case l__law_letters => k_is)
    (case c__law_letters => k_is)
    (case k__law_letters => k_is)
    (case a__law_renamed => k_is)
    (case l__law_renamed => k_is)
    (case c__law_renamed => k_is)
    (case k__law_renamed => k_is)
    (case a__law_same_machine => k_is)
    (case l__law_same_machine => k_is)
    (case c__law_same_machine => k_is)
    (case k__law_same_machine => k_is)
    (case a__law_rename_right => k_is)
    (case l__law_rename_right => k_is)
    (case c__law_rename_right => k_is)
    (case k__law_rename_right => k_is)
    (case a_law => k_is)
    (case l_law => k_is)
    (case c_law => k_is)
    (case k_law => k_is)
    (case z_tuple => k_is)
    (case z_range => k_is)
    (case z_list => k_is)
    (case z_set => k_is)
    (case z_sorted => k_is)
    (case z_len => k_is)
    (case z_int => k_is)
    (case z_isinstance => k_is)
    (case z_bool => k_is)
    (case z_all => k_is)
#print axioms PySem.Challenge.cw_shadowlinks_k36_machines_read_holds
