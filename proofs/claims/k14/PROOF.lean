import PyProof.Rows.All
import Wide.All
import OpenK.AllK
import Wide.FinOn
import HandS.ForExc
import PyProof.Rows.SortShellAny
import HandS.SetTxt0
import HandS.TupSets
import HandS.ForMost
import HandS.Walk
import HandS.IsInst
import HandS.IterVal
import HandS.Star
import HandS.Deep
import HandS.DictComp
import HandS.Zip
import HandS.ExcInit
import HandS.Nested
import KE.KExcSuper
import HandS.ExcField
import HandS.ExcIs
import KE.KExcIs
import HandS.WordsExc
import HandS.FStr
import HandS.Defaults
import HandS.CallSlots
import HandS.Wide
import HandS.Style
import HandS.OwnEq
import HandS.Property
import OpenK.KMeth
import OpenK.KOps
import KE.KOpsOwn
import KE.KOwnIter
import KE.KDictPairs
import HandS.Gcd
import HandS.ClsMeth
import HandS.TupMul
import HandS.SetFor
import HandS.TupAny
import KE.DataFind
import HandS.TryMany
import HandS.OwnIter
import HandS.Iter
import HandS.Comp
import HandS.Dict
import KE.KDictKeyed
import HandS.SortKw
import HandS.CallRecv
import HandS.RaiseMore
import HandS.Sort
import PySem.Challenge.RW_shadowlinks_k14_step_constraints
set_option Elab.async false
set_option linter.all false
set_option maxRecDepth 100000
/-! Sets of texts, made of a list or a tuple, and sorted: any texts, in whatever order the world walks them. -/
namespace Sx
open PySem PySem.Spec PyProof.Rows L2 PySem.Froz

/-! ### lists -/
/-- a list without twins whose members all stand in a list of the same length is that list in another order -/
theorem perm_of_sub : ∀ (l ks : List Str), l.Nodup → (∀ x, x ∈ l → x ∈ ks) → ks.length = l.length → l.Perm ks
  | [], ks, _, _, e => by
    have z : ks = [] := List.length_eq_zero_iff.mp e
    rw [z]
  | x :: l, ks, nd, sub, e => by
    obtain ⟨hx, nd'⟩ := List.nodup_cons.mp nd
    have hm : x ∈ ks := sub x List.mem_cons_self
    have p := List.perm_cons_erase hm
    have hl : (ks.erase x).length = l.length := by
      have q := p.length_eq
      simp only [List.length_cons] at q e
      omega
    refine ((perm_of_sub l (ks.erase x) nd' (fun y hy => ?_) hl).cons x).trans p.symm
    have hne : y ≠ x := fun z => hx (z ▸ hy)
    exact (List.mem_erase_of_ne hne).mpr (sub y (List.mem_cons_of_mem _ hy))

/-! ### the payload behind an add -/
theorem tail_ris {ep : Nat} {es : Array (Int × Value)} {t : SetTable} {d : Bool} (r : Ris t.place.toList) : Ris (tailTx ep es t d).2.2.place.toList := by
  unfold tailTx
  split
  · exact relayAll_ris t es _
  · exact r
theorem tail_led {ep : Nat} {es : Array (Int × Value)} {t : SetTable} {d : Bool} : (tailTx ep es t d).2.2.led = t.led := by
  unfold tailTx
  split
  · exact relayAll_led t es _
  · rfl
theorem add_ris {D : SD} (h : Int) (v : Value) (r : Ris D.2.2.place.toList) : Ris (addTx h v D).2.2.place.toList := by
  have r1 := layNew_ris D.2.2 D.1 h v r
  unfold addTx
  apply tail_ris
  split
  · exact r1
  · exact r1
theorem add_led {D : SD} (h : Int) (v : Value) : (addTx h v D).2.2.led = D.2.2.led := by
  have r1 := layNew_led D.2.2 D.1 h v
  unfold addTx
  rw [tail_led]
  split
  · exact r1
  · exact r1

/-- the set of the texts l stands at a -/
def SetX (P : Program) (w : World) (h : Heap) (a : Addr) (l : List Str) : Prop :=
  ∃ D : SD, h.get? a = some (sObj "set" D) ∧ TxOk P w D l ∧ l.Nodup ∧ Ris D.2.2.place.toList ∧ (w.params.followText "set-order" = true ∨ D.2.2.led = true)

section
variable {P : Program} {w : World} {A : Around} {E : Value → Shared → Prop} {s : Shared}

theorem SetX.at {h h' : Heap} {a : Addr} {l : List Str} (R : SetX P w h a l) (k : ∀ o, h.get? a = some o → h'.get? a = some o) : SetX P w h' a l := by
  obtain ⟨D, ho, r⟩ := R
  exact ⟨D, k _ ho, r⟩
theorem setX_fresh {h : Heap} {a : Addr} (ho : h.get? a = some { cls := .type "set", dict := none, data := .set #[] 0 (.fresh 0 0 (!w.params.followText "set-order")) }) : SetX P w h a [] := by
  refine ⟨(#[], 0, .fresh 0 0 (!w.params.followText "set-order")), ho, TxOk.nil rfl, List.nodup_nil, List.Pairwise.nil, ?_⟩
  show _ ∨ (!w.params.followText "set-order") = true
  cases w.params.followText "set-order"
  · exact .inr rfl
  · exact .inl rfl

/-- one text more, new or there already -/
theorem add_any {a : Addr} {l : List Str} {k : Str} {u : Tok} {Q : Bool → Shared → Prop} (R : SetX P w s.heap a l) (hb : l.length + 1 < scanBound)
    (hQ : ∀ b h' l', Heap.SameBut a s.heap h' → SetX P w h' a l' → (∀ x, x ∈ l' ↔ x = k ∨ x ∈ l) → l'.length ≤ l.length + 1 → Q b { s with heap := h' }) :
    wpAny (model P w) A (setAddHashed a (.str k u) (hashStr w k)) Q E s := by
  obtain ⟨D, ho, F, nd, r, hl⟩ := R
  rcases Classical.em (k ∈ l) with hk | hk
  · obtain ⟨es, ep, t⟩ := D
    have hd : (sObj "set" (es, ep, t)).data = .set es ep t := rfl
    have hf : t.fits es.size = true := F.fit
    have hel : ElemsOf (PySem.strKind P w) es.toList := F.el
    have hb0 : es.size < scanBound := by
      have z : es.size = l.length := F.sz
      omega
    have hkey : (PySem.strKind P w).is k (.str k u) = true := is_str k u
    unfold setAddHashed setAddHashedIn
    refine wpAny_holding (wpAny_bind (wpAny_setState_of ho hd hf ?_))
    dsimp only
    rw [byScan_of rfl hb0 hel]
    simp only [↓reduceIte]
    unfold setAddByScan
    refine wpAny_bind ?_
    refine wpAny_bind (wpAny_rule ?_)
    refine wpAny_bind (wpAny_setScan_of (knd := PySem.strKind P w) (k := k) hkey ho hd hf hel ?_)
    cases hfi : List.findIdx? (fun e => (PySem.strKind P w).is k e.2) es.toList with
    | none =>
      obtain ⟨e, he, q⟩ := (F.mem k).mp hk
      have c := List.findIdx?_eq_none_iff.mp hfi e he
      rw [q] at c
      cases c
    | some j =>
      dsimp only
      refine wpAny_pure (wpAny_pure ?_)
      exact hQ _ s.heap l (Heap.SameBut.refl a s.heap) ⟨(es, ep, t), ho, F, nd, r, hl⟩ (fun x => ⟨.inr, fun z => z.elim (fun e => e ▸ hk) id⟩) (Nat.le_succ _)
  · refine add_x ho F hk hb (hQ _ _ (k :: l) (Heap.SameBut.update s.heap a _) ⟨_, get_upd _ ho rfl, add_ok u F, List.nodup_cons.mpr ⟨hk, nd⟩, add_ris _ _ r, ?_⟩ (fun x => List.mem_cons) (Nat.le_refl _))
    exact hl.imp id fun z => by
      rw [add_led]
      exact z
end

/-! ### set(xs): the loop -/
section
variable {P : Program} {w : World} {A : Around} {R : Result → Shared → Prop} {I : Addr} {fp wr : List Addr} {G : Array GenState → Array GenState → Prop} {n : Nat} {Pv : Nat → Value → Prop} {St : Nat → Shared → Prop}
theorem fill_loop (W : WalksS P w A.in1 I fp wr G n Pv St) (S : Addr) (hSf : S ∉ fp) (xs : List Str) (hn : xs.length = n) (hval : ∀ i v, Pv i v → ∃ t, v = .str (xs.getD i Str.empty) t) (hb : n + 1 < scanBound) :
    ∀ (k i : Nat) (s : Shared) (l : List Str), n - i = k → i ≤ n → St i s → SetX P w s.heap S l → (∀ x, x ∈ l ↔ x ∈ xs.take i) → l.length ≤ i →
      (∀ s' l', Moved (S :: wr) G s s' → SetX P w s'.heap S l' → (∀ x, x ∈ l' ↔ x ∈ xs) → l'.length ≤ n → R (.ok (.ret .none)) s') →
      codeAny (model P w) A (.builtin "set.update.loop" ⟨[.ref S, .ref I], []⟩) R s := by
  have hSw : S ∉ wr := fun h => hSf (W.sub _ h)
  have hsub : ∀ b ∈ wr, b ∈ S :: wr := fun b hb => List.mem_cons_of_mem _ hb
  intro k
  induction k with
  | zero =>
    intro i s l hk hi hst hS hm hlen hR
    have hin : i = n := by omega
    subst hin
    refine codeAny_builtin PyProof.Rows.F.entry_set_update_loop ?_
    rw [Around.under_plainId PyProof.Rows.F.plain_set_update_loop _]
    show wpAny _ A.in1 (pyNext (.ref I) >>= _) _ _ s
    refine wpAny_bind (W.done s _ _ hst fun s' hmv => ?_)
    show wpAny _ A.in1 (ret Value.none) _ _ s'
    refine wpAny_pure (hR s' l (hmv.mono hsub) (hS.at fun o e => hmv.heap S o hSw e) (fun x => ?_) hlen)
    rw [hm x, ← hn, List.take_length]
  | succ k ih =>
    intro i s l hk hi hst hS hm hlen hR
    have hlt : i < n := by omega
    refine codeAny_builtin PyProof.Rows.F.entry_set_update_loop ?_
    rw [Around.under_plainId PyProof.Rows.F.plain_set_update_loop _]
    show wpAny _ A.in1 (pyNext (.ref I) >>= _) _ _ s
    refine wpAny_bind (W.item i s _ _ hlt hst fun v s' hP hst' hmv => ?_)
    obtain ⟨t, rfl⟩ := hval i v hP
    have hS' : SetX P w s'.heap S l := hS.at fun o e => hmv.heap S o hSw e
    show wpAny _ A.in1 (holding [Value.str (xs.getD i Str.empty) t] (setAdd S (.str (xs.getD i Str.empty) t)) >>= _) _ _ s'
    refine wpAny_bind (wpAny_holding ?_)
    unfold setAdd
    refine wpAny_holding ?_
    refine wpAny_bind ((PySem.strKind P w).pyHash (k := xs.getD i Str.empty) (strKind_is _ _ _ _) ?_)
    have hroom : l.length + 1 < scanBound := by omega
    refine add_any (s := { s' with toks := s'.toks + 1 }) hS' hroom fun b h' l' hsb hS2 hm2 hl2 => ?_
    have hix : i < xs.length := by omega
    have eg : xs.getD i Str.empty = xs[i] := by
      rw [List.getD_eq_getElem?_getD, List.getElem?_eq_getElem hix]
      rfl
    have hm3 : ∀ x, x ∈ l' ↔ x ∈ xs.take (i + 1) := fun x => by
      rw [hm2 x, List.take_succ, List.getElem?_eq_getElem hix, eg]
      show _ ↔ x ∈ xs.take i ++ [xs[i]]
      rw [List.mem_append, List.mem_singleton, hm x]
      exact Or.comm
    refine wpAny_pure ⟨plainId_quiet PyProof.Rows.F.plain_set_update_loop _, ih (i + 1) _ l' (by omega) hlt (W.frame _ s' _ _ hst' (Nat.le_succ _) fun b hb o e => ?_) hS2 hm3 (by omega) fun s'' l'' hmv'' hS'' hm'' hl'' => ?_⟩
    · rw [hsb.2 b (fun h : b = S => hSf (by rw [← h]; exact hb))]
      exact e
    · refine hR s'' l'' (Moved.trans W.gtrans ((hmv.mono hsub).then_heap (Nat.le_succ _) fun b o hb e => ?_) hmv'') hS'' hm'' hl''
      rw [hsb.2 b (fun h : b = S => hb (by rw [h]; exact List.mem_cons_self))]
      exact e
end

/-! ### set(xs): the call -/
section
variable {P : Program} {w : World} {A : Around} {E : Value → Shared → Prop} {s : Shared}
abbrev emptyObj (w : World) : Obj := { cls := .type "set", dict := none, data := .set #[] 0 (.fresh 0 0 (!w.params.followText "set-order")) }
theorem str_at {us : List Value} {xs : List Str} (h : StrsAre us xs) : ∀ (i : Nat) (v : Value), us[i]? = some v → ∃ t, v = .str (xs.getD i Str.empty) t := by
  induction h with
  | nil =>
    intro i v e
    cases e
  | cons y t h ih =>
    intro i v e
    cases i with
    | zero =>
      have q : Value.str y t = v := Option.some.inj e
      exact ⟨t, q.symm⟩
    | succ i => exact ih i v e

set_option maxRecDepth 100000 in
set_option maxHeartbeats 4000000 in
/-- set(xs), xs a list or a tuple of texts -/
theorem call_set {l : Addr} {items : Array Value} {xs : List Str} {Q : Value → Shared → Prop} (hh : A.handled = none) (hl : s.heap.IsList l items ∨ s.heap.IsTuple l items) (hi : StrsAre items.toList xs) (hb : xs.length + 1 < scanBound)
    (h : ∀ (h' : Heap) (tk : Nat) (ys : List Str), SetX P w h' s.heap.objs.size ys → (∀ x, x ∈ ys ↔ x ∈ xs) → ys.length ≤ xs.length → (∀ b o, s.heap.get? b = some o → h'.get? b = some o) → Q (.ref s.heap.objs.size) { s with heap := h', toks := tk }) :
    wpAny (model P w) A (call (.type "set") [.ref l]) Q E s := by
  have hisz : xs.length = items.size := by rw [← StrsAre.len_eq hi, Array.length_toList]
  have hval : ∀ (i : Nat) (v : Value), items[i]? = some v → ∃ t, v = .str (xs.getD i Str.empty) t := fun i v hv => str_at hi i v (by rw [Array.getElem?_toList]; exact hv)
  obtain ⟨c, tl, hmro⟩ := PySem.F.called_set.mro
  have hmade := PySem.F.called_set.made
  have hsub := PySem.F.called_set.sub
  refine wpAny_call (codeAny_of_tree ?_)
  show wpAny _ _ (callAny (.type "set") _) _ _ _
  refine wpAny_pure ⟨Code.quiet_builtin _ (by decide +kernel), codeAny_builtin PySem.F.entry_type_call ?_⟩
  rw [Around.under_plain (weight_type_call_type "set" [.ref l] []) rfl]
  have h1 := PySem.F.called_set.notType
  have h2 := PySem.F.called_set.canCreate
  have hct := PySem.F.typeCall_set_1 (.ref l)
  repeat (any_goals (first | assumption | wp_step))
  refine codeAny_mono (code_set_led1 (.ref l) (E := E) (Q₁ := fun obj s₁ => obj = .ref s.heap.objs.size ∧ s₁ = { s with heap := s.heap.push (emptyObj w) }) ⟨rfl, rfl⟩) fun r s₁ hr => ?_
  cases r with
  | error e => exact hr
  | ok fl =>
    cases fl with
    | ret obj =>
      obtain ⟨rfl, rfl⟩ := hr
      have hS : (s.heap.push (emptyObj w)).get? s.heap.objs.size = some (emptyObj w) := Heap.get?_push_size _ rfl
      have hT : Shared.TypeIs { s with heap := s.heap.push (emptyObj w) } (.ref s.heap.objs.size) "set" := ⟨_, hS, rfl⟩
      have hli := PySem.F.called_set.init.lookup
      have hbi := PySem.F.called_set.init.bind (.ref s.heap.objs.size)
      repeat (any_goals (first | assumption | wp_step))
      refine codeAny_mono (codeAny_call_builtin (R := wants (fun r s₂ => r = .none ∧ ∃ h' tk ys, s₂ = { s with heap := h', toks := tk } ∧ SetX P w h' s.heap.objs.size ys ∧ (∀ x, x ∈ ys ↔ x ∈ xs) ∧ ys.length ≤ xs.length ∧
          (∀ b o, s.heap.get? b = some o → h'.get? b = some o)) E) PySem.F.called_set.init.plain PySem.F.entry_set_init (check_set_init_1 hT ?_)) fun r₂ s₂ hr₂ => ?_
      · have hh3 : A.in1.in1.in1.handled = none := by simp [hh]
        have hz1 : (s.heap.push (emptyObj w)).objs.size = s.heap.objs.size + 1 := Heap.size_push ..
        rcases hl with hl | hl
        · obtain ⟨ol, hol, hcl, nl, hdl⟩ := hl
          obtain ⟨ocls, odict, odata, oslots⟩ := ol
          simp only at hcl hdl
          subst hcl; subst hdl
          have hol' : (s.heap.push (emptyObj w)).get? l = some { cls := .type "list", dict := odict, data := .seq items nl, slots := oslots } := Heap.get?_push_of_some _ hol
          have hsls := PySem.F.sub_list_set
          have hslf := PySem.F.sub_list_frozenset
          have hne : (Value.type "list" == Value.type "dict") = false := by decide
          have hl1 : (s.heap.push (emptyObj w)).IsList l items := ⟨_, hol', rfl, nl, rfl⟩
          unfold Builtin.«set.__init__» noKeywords Builtin.Frozenset.updateFrom
          generalize hPI : pyIter = PI
          wp_walk
          subst hPI
          refine wpAny_pyIter_list hl1 ?_
          refine wpAny_bind (wpAny_runValue ?_)
          have hlS : l < s.heap.objs.size := Heap.lt_size hol
          have hneI : l ≠ (s.heap.push (emptyObj w)).objs.size := by
            rw [hz1]
            exact Nat.ne_of_lt (Nat.lt_succ_of_lt hlS)
          have hSf : s.heap.objs.size ∉ [(s.heap.push (emptyObj w)).objs.size, l] := by
            simp only [List.mem_cons, List.mem_singleton, List.not_mem_nil, or_false, not_or]
            rw [hz1]
            exact ⟨Nat.ne_of_lt (Nat.lt_succ_self _), Nat.ne_of_gt hlS⟩
          have hget : ((s.heap.push (emptyObj w)).push { cls := .type "list_iterator", data := .fields #[.ref l, .int 0 0] }).get? s.heap.objs.size = some (emptyObj w) := Heap.get?_push_of_some _ hS
          refine fill_loop ((Walks.list hh3 _ l hneI items).toS) s.heap.objs.size hSf xs hisz hval (by omega) (items.size - 0) 0 _ [] (by omega) (Nat.zero_le _)
            ⟨⟨_, Heap.get?_push_size _ rfl, rfl, rfl⟩, (hl1.push _)⟩ (setX_fresh hget) (fun x => Iff.rfl) (Nat.le_refl _) ?hR
          case hR =>
            intro s' ys hm hS' hmm hlen
            obtain ⟨h', g', d', tk', os'⟩ := s'
            have eg : g' = s.gens := hm.gens
            have ed : d' = s.drawn := hm.drawn
            have eo : os' = s.os := hm.os
            subst eg; subst ed; subst eo
            show wpAny _ _ _ _ _ _
            refine wpAny_pure ?_
            show wpAny _ _ (ret Value.none) _ _ _
            refine wpAny_pure ⟨rfl, h', tk', ys, rfl, hS', hmm, by omega, fun b o e => ?_⟩
            have hb0 : b < s.heap.objs.size := Heap.lt_size e
            refine hm.heap b o ?_ (Heap.get?_push_of_some _ (Heap.get?_push_of_some _ e))
            simp only [List.mem_cons, List.mem_singleton, List.not_mem_nil, or_false, not_or]
            rw [hz1]
            exact ⟨Nat.ne_of_lt hb0, Nat.ne_of_lt (Nat.lt_succ_of_lt hb0)⟩
        · obtain ⟨ol, hol, hcl, nl, hdl⟩ := hl
          obtain ⟨ocls, odict, odata, oslots⟩ := ol
          simp only at hcl hdl
          subst hcl; subst hdl
          have hol' : (s.heap.push (emptyObj w)).get? l = some { cls := .type "tuple", dict := odict, data := .seq items nl, slots := oslots } := Heap.get?_push_of_some _ hol
          have hsls := PySem.F.sub_tuple_set
          have hslf := PySem.F.sub_tuple_frozenset
          have hne : (Value.type "tuple" == Value.type "dict") = false := by decide
          have hl1 : (s.heap.push (emptyObj w)).IsTuple l items := ⟨_, hol', rfl, nl, rfl⟩
          unfold Builtin.«set.__init__» noKeywords Builtin.Frozenset.updateFrom
          generalize hPI : pyIter = PI
          wp_walk
          subst hPI
          refine wpAny_pyIter_tuple hl1 ?_
          refine wpAny_bind (wpAny_runValue ?_)
          have hlS : l < s.heap.objs.size := Heap.lt_size hol
          have hneI : l ≠ (s.heap.push (emptyObj w)).objs.size := by
            rw [hz1]
            exact Nat.ne_of_lt (Nat.lt_succ_of_lt hlS)
          have hSf : s.heap.objs.size ∉ [(s.heap.push (emptyObj w)).objs.size, l] := by
            simp only [List.mem_cons, List.mem_singleton, List.not_mem_nil, or_false, not_or]
            rw [hz1]
            exact ⟨Nat.ne_of_lt (Nat.lt_succ_self _), Nat.ne_of_gt hlS⟩
          have hget : ((s.heap.push (emptyObj w)).push { cls := .type "tuple_iterator", data := .fields #[.ref l, .int 0 0] }).get? s.heap.objs.size = some (emptyObj w) := Heap.get?_push_of_some _ hS
          refine fill_loop ((Walks.tuple hh3 _ l hneI items).toS) s.heap.objs.size hSf xs hisz hval (by omega) (items.size - 0) 0 _ [] (by omega) (Nat.zero_le _)
            ⟨⟨_, Heap.get?_push_size _ rfl, rfl, rfl⟩, (hl1.push _)⟩ (setX_fresh hget) (fun x => Iff.rfl) (Nat.le_refl _) ?hR
          case hR =>
            intro s' ys hm hS' hmm hlen
            obtain ⟨h', g', d', tk', os'⟩ := s'
            have eg : g' = s.gens := hm.gens
            have ed : d' = s.drawn := hm.drawn
            have eo : os' = s.os := hm.os
            subst eg; subst ed; subst eo
            show wpAny _ _ _ _ _ _
            refine wpAny_pure ?_
            show wpAny _ _ (ret Value.none) _ _ _
            refine wpAny_pure ⟨rfl, h', tk', ys, rfl, hS', hmm, by omega, fun b o e => ?_⟩
            have hb0 : b < s.heap.objs.size := Heap.lt_size e
            refine hm.heap b o ?_ (Heap.get?_push_of_some _ (Heap.get?_push_of_some _ e))
            simp only [List.mem_cons, List.mem_singleton, List.not_mem_nil, or_false, not_or]
            rw [hz1]
            exact ⟨Nat.ne_of_lt hb0, Nat.ne_of_lt (Nat.lt_succ_of_lt hb0)⟩
      · cases r₂ with
        | error e => exact hr₂
        | ok fl₂ =>
          cases fl₂ with
          | ret r =>
            obtain ⟨rfl, h', tk, ys, rfl, hS', hmm, hlen, hk'⟩ := hr₂
            repeat (any_goals (first | assumption | wp_step))
            exact h _ _ _ hS' hmm hlen hk'
          | _ => exact hr₂.elim
    | _ => exact hr.elim

/-! ### sorted(set) -/
theorem strs_of : ∀ (l : List Value), (∀ v ∈ l, ∃ k tk, v = Value.str k tk) → StrsAre l (l.map strOf)
  | [], _ => .nil
  | v :: l, h => by
    obtain ⟨k, tk, rfl⟩ := h v List.mem_cons_self
    exact .cons k tk (strs_of l fun u hu => h u (List.mem_cons_of_mem _ hu))
theorem sorted_setX {a : Addr} {l : List Str} {Q : Value → Shared → Prop} (R : SetX P w s.heap a l) (hh : A.handled = none) (hlen : l.length + 1 < scanBound)
    (hQ : ∀ s' p (out : Array Value) (c : Nat) (ys : List Str), (∀ b o, s.heap.get? b = some o → s'.heap.get? b = some o) → s'.gens = s.gens → s'.os = s.os → s.heap.objs.size ≤ p →
      s'.heap.get? p = some (seqObj "list" out c) → StrsAre out.toList ys → sortedS ys = true → ys.Perm l → Q (.ref p) s') :
    wpAny (model P w) A (call (.builtin "sorted") [.ref a]) Q E s := by
  obtain ⟨⟨es, ep, t⟩, ho, F, nd, r, hl⟩ := R
  have hf : t.fits es.size = true := F.fit
  have hsz : es.size = l.length := F.sz
  refine Calls.call_function_entry kind_sorted plain_sorted entry_sorted (args_sorted1 _) ?_
  unfold Builtin.«sorted»
  refine wpAny_bind (m := checkCount "sorted" 1 1 _) (wpAny_pure ?_)
  refine wpAny_bind (collect_set (A := A.in1) hh ⟨_, ho, rfl, rfl⟩ hf (by show es.size < scanBound; rw [hsz]; omega) r hl fun s1 vs k1 hz g1 o1 pm => ?_)
  have hvl : vs.length = l.length := by rw [pm.length_eq, List.length_map, Array.length_toList]; exact hsz
  have hst : ∀ v ∈ vs, ∃ k tk, v = Value.str k tk ∧ k ∈ l := fun v hv => by
    obtain ⟨e, he, q⟩ := List.mem_map.mp (pm.mem_iff.mp hv)
    obtain ⟨⟨k, h1, _⟩, _⟩ := F.el e he
    obtain ⟨tk, h2⟩ := Value.isStrOf_shape h1
    exact ⟨k, tk, by rw [← q]; exact h2, (F.mem k).mpr ⟨e, he, h1⟩⟩
  have hI : StrsAre vs (vs.map strOf) := strs_of vs fun v hv => let ⟨k, tk, e, _⟩ := hst v hv; ⟨k, tk, e⟩
  have pk : (vs.map strOf).Perm l := by
    refine (perm_of_sub l (vs.map strOf) nd (fun x hx => ?_) (by rw [List.length_map, hvl])).symm
    obtain ⟨e, he, h1⟩ := (F.mem x).mp hx
    obtain ⟨tk, h2⟩ := Value.isStrOf_shape h1
    exact List.mem_map.mpr ⟨e.2, pm.mem_iff.mpr (List.mem_map.mpr ⟨e, he, rfl⟩), by rw [h2]; rfl⟩
  have hline : vs.length ≤ sizeLine := by
    rw [hvl, sizeLine_eq]
    have z : scanBound = 4096 := rfl
    omega
  refine wpAny_bind (wpAny_newList ?_ hline)
  have hoL : (s1.heap.push (seqObj "list" vs.toArray 0)).get? s1.heap.objs.size = some (seqObj "list" vs.toArray 0) := Heap.get?_push_size _ rfl
  refine wpAny_bind (wpAny_holding (wpAny_call_entry slot_list_sort ⟨_, hoL, rfl⟩ entry_list_sort (list_sort_treeKAny strKind_oneLt hoL hI.keysOf (fun v₁ v₂ rest e => keyKind_strs (by rw [← e]; exact hI)) hline fun st' hp hs => ⟨_, rfl, ?_⟩) (args_list_sort _)))
  obtain ⟨ys, a1, a2, a3⟩ := sorted_out_str hI hp hs
  obtain ⟨c, hc⟩ := sortedHeap_at (vs := vs) (out := (arrOf st').map (·.2)) hoL
  refine wpAny_pure ⟨_, rfl, hQ _ s1.heap.objs.size _ c ys (fun b u e => ?_) g1 o1 hz hc a1 a3 (a2.trans pk)⟩
  have q := k1 b u e
  have hlt := Heap.lt_size q
  show (sortedHeap (s1.heap.push (seqObj "list" vs.toArray 0)) s1.heap.objs.size vs _).get? b = some u
  rw [sortedHeap_old (Nat.ne_of_lt hlt) (by rw [size_push']; exact Nat.lt_succ_of_lt hlt)]
  exact Heap.get?_push_of_some _ q
end

/-! ### over the layer -/
def SetV (P : Program) (w : World) (a : Addr) (l : List Str) : HO := .ext fun h => SetX P w h a l
section
variable {X : Cx}
theorem setV_new {P : Program} {w : World} {H : Hp} {h : Heap} {a : Addr} {l : List Str} (R : SetX P w h a l) : ObjOk P w H h a (SetV P w a l) := by
  have ⟨o, ho, _⟩ := R
  exact ⟨R, ⟨_, ho⟩, fun h1 h2 p k => SetX.at p k⟩
/-- set(xs), xs a list or a tuple of texts -/
def rSetX (K : PySem.W.Frag) (P : Program) (w : World) : List V → Hp → VK → Prop := fun vs H Q => ∃ (a : Addr) (xs : List Str), vs = [V.ref a] ∧ (SqL K H a (xs.map V.str) ∨ SqT K H a (xs.map V.str)) ∧ xs.length < 4000 ∧
  ∀ p ys, H p = none → (∀ x, x ∈ ys ↔ x ∈ xs) → ys.Nodup → ys.length ≤ xs.length → Q (.ref p) (upd H p (SetV P w p ys))
theorem cr_setX (hc : X.calm = true) : CallR X (.type "set") (rSetX X.K X.prog X.w) := by
  intro pins s σ H vs us Q I r h
  obtain ⟨a, xs, rfl, hs, hlen, q⟩ := h
  rw [Vals.ref1 r]
  have hn : H s.heap.objs.size = none := I.hok.fresh (Nat.le_refl _)
  have hz : xs.length + 1 < scanBound := by
    have z : scanBound = 4096 := rfl
    omega
  obtain ⟨its, rv, pl⟩ : ∃ its : List Value, Vals (xs.map V.str) its ∧ (s.heap.IsList a its.toArray ∨ s.heap.IsTuple a its.toArray) := by
    rcases hs with hs | hs
    · obtain ⟨its, rv, pl, _⟩ := I.list hs
      exact ⟨its, rv, .inl pl.isList⟩
    · obtain ⟨its, rv, pl, _⟩ := I.tuple hs
      exact ⟨its, rv, .inr pl⟩
  refine call_set (P := X.prog) (w := X.w) (I.ok.hd hc) pl (by simpa using rv.strs) hz fun h' tk ys R hm hl k => ?_
  have nd : ys.Nodup := by
    obtain ⟨_, _, _, z, _⟩ := R
    exact z
  exact ⟨.ref s.heap.objs.size, upd H s.heap.objs.size (SetV X.prog X.w s.heap.objs.size ys), I.laid (t' := tk) k (Nat.le_refl _) (setV_new R), rfl, q _ ys hn hm nd hl⟩
/-- sorted(a set of texts) -/
def rSortX (P : Program) (w : World) : List V → Hp → VK → Prop := fun vs H Q => ∃ (a : Addr) (l : List Str), vs = [V.ref a] ∧ H a = some (SetV P w a l) ∧ l.length < 4000 ∧
  ∀ ys p, ys.Perm l → sortedS ys = true → H p = none → Q (.ref p) (upd H p (.lst (ys.map V.str)))
theorem cr_sortX (hc : X.calm = true) : CallR X (.builtin "sorted") (rSortX X.prog X.w) := by
  intro pins s σ H vs us Q I r h
  obtain ⟨a, l, rfl, ha, hlen, q⟩ := h
  have R : SetX X.prog X.w s.heap a l := (I.hok a _ ha).1
  rw [Vals.ref1 r]
  have hz : l.length + 1 < scanBound := by
    have z : scanBound = 4096 := rfl
    omega
  refine sorted_setX R (I.ok.hd hc) hz fun s' p out c ys k g o hp hg hi hs pm => ?_
  have hl2 : (ys.map V.str).length ≤ sizeLine := by
    rw [List.length_map, pm.length_eq, sizeLine_eq]
    omega
  have hn : H p = none := I.hok.fresh hp
  have J : Inv X pins σ (upd H p (.lst (ys.map V.str))) { s with heap := s'.heap, gens := s'.gens, drawn := s'.drawn, toks := s'.toks } :=
    I.call (ch := []) (Un.laid k hp hn) (I.hok.laid k hp ⟨hl2, out.toList, c, vals_of_strs hi, hg⟩) (by rw [g]; exact I.bare) (fun _ z => nomatch z)
  have e : s' = { s with heap := s'.heap, gens := s'.gens, drawn := s'.drawn, toks := s'.toks } := by
    cases s'
    cases s
    cases o
    rfl
  rw [e]
  exact ⟨.ref p, _, J, rfl, q ys p pm hs hn⟩
end
end Sx
/-! Calls of the module's own defs by their promises, walks over a list or a tuple, data that stays. -/
namespace Bx
open PySem PySem.Spec PyProof.Rows L2 TL

/-- the module's name x holds a def that keeps sp, by at most level k -/
structure Cal (P : Program) (w : World) (K : PySem.W.Frag) (mg : Str → Option Value) (base : Heap) (x : Str) (k : Nat) (ps : List Str) (sp : Sp) : Prop where
  ex : ∃ (f : Addr) (fd : FuncData), FnOk P w K mg base CX0 k f fd ps sp ∧ mg x = some (.ref f) ∧ PySem.W.keepIn K (.ref f) = true ∧ Binds K fd ps []
/-- the same of a def with a star parameter alone -/
structure CalR (P : Program) (w : World) (K : PySem.W.Frag) (mg : Str → Option Value) (base : Heap) (x : Str) (k : Nat) (sp : Sp) : Prop where
  ex : ∃ f : Addr, FnR P w K mg base CX0 k f sp ∧ mg x = some (.ref f) ∧ PySem.W.keepIn K (.ref f) = true
section
variable {X : Cx} {x : Str} {k : Nat} {ps : List Str} {sp : Sp} {e : Expr} {es : List Expr} {t : TA} {p pos : Pos}
def tCal (sp : Sp) (t : TA) : TE := fun σ H Q => t σ H fun vs H1 => sp vs H1 Q E0
theorem pe_cal (c : Cal X.prog X.w X.K X.mg X.base x k ps sp) (hr : Room k X.A) (ha : PA X (e :: es) t) (hg : Gl X x := by rfl) (hdb : (x == ("__debug__" : Str)) = false := by decide)
    (he : starEach (e :: es) X.env = (false, eval e X.env) :: starEach es X.env := by rfl) (hpl : (backTo pos (starEach es X.env)).any (·.1) = false := by rfl) : PE X (.Call (.Name x p) (e :: es) [] pos) (tCal sp t) := by
  obtain ⟨f, fd, ok, g, kp, b⟩ := c.ex
  have z := pe_call (E := E0) ok hr hg g kp b .nil pass0 ha hdb he hpl (p := p)
  refine ⟨fun pins s σ H Q I h => z.run pins s σ H Q I ?_⟩
  unfold tCall
  simp only [List.append_nil]
  exact h
theorem pe_cal0 (c : Cal X.prog X.w X.K X.mg X.base x k ps sp) (hr : Room k X.A) (hg : Gl X x := by rfl) (hdb : (x == ("__debug__" : Str)) = false := by decide) : PE X (.Call (.Name x p) [] [] pos) (tCal sp tNil) := by
  obtain ⟨f, fd, ok, g, kp, b⟩ := c.ex
  have z := pe_call0 (E := E0) (pos := pos) ok hr hg g kp b .nil pass0 hdb (p := p)
  refine ⟨fun pins s σ H Q I h => z.run pins s σ H Q I ?_⟩
  exact h
theorem pe_calR (c : CalR X.prog X.w X.K X.mg X.base x k sp) (hr : Room k X.A) (ha : PA X (e :: es) t) (hg : Gl X x := by rfl) (hdb : (x == ("__debug__" : Str)) = false := by decide)
    (he : starEach (e :: es) X.env = (false, eval e X.env) :: starEach es X.env := by rfl) (hpl : (backTo pos (starEach es X.env)).any (·.1) = false := by rfl) : PE X (.Call (.Name x p) (e :: es) [] pos) (tCal sp t) := by
  obtain ⟨f, ok, g, kp⟩ := c.ex
  refine ⟨fun pins s σ H Q I h => ?_⟩
  refine wpAny_Call_Name_kw (ld_glob I hg g ?_ hdb)
  refine PySem.W.callWith_K (h₀ := X.base) I.ok.mod.kin kp (thn (ha.run pos pins s σ H _ I h) fun us s1 ⟨vs, H1, I1, r, q⟩ => ⟨I1.kIn, ?_⟩) he hpl
  exact wpAny_call (run_fnR ok hr pass0 I1 r q)
theorem pe_calR0 (c : CalR X.prog X.w X.K X.mg X.base x k sp) (hr : Room k X.A) (hg : Gl X x := by rfl) (hdb : (x == ("__debug__" : Str)) = false := by decide) : PE X (.Call (.Name x p) [] [] pos) (tCal sp tNil) := by
  obtain ⟨f, ok, g, kp⟩ := c.ex
  refine ⟨fun pins s σ H Q I h => ?_⟩
  refine wpAny_Call_Name_kw (ld_glob I hg g ?_ hdb)
  exact PySem.W.callWith_K0 I.kIn kp (wpAny_call (run_fnR ok hr pass0 I .nil h))

/-- x(*y) -/
theorem pe_calS {te : TE} {sp_ : Pos} (c : CalR X.prog X.w X.K X.mg X.base x k sp) (hr : Room k X.A) (he : PE X e te) (hg : Gl X x := by rfl) (hdb : (x == ("__debug__" : Str)) = false := by decide) (hst : starEach [.Starred e sp_] X.env = [(true, eval e X.env)] := by rfl) :
    PE X (.Call (.Name x p) [.Starred e sp_] [] pos) (fun σ H Q => te σ H fun y H1 => ∃ a xs, y = V.ref a ∧ (SqT X.K H1 a xs ∨ SqL X.K H1 a xs) ∧ sp xs H1 Q E0) := by
  obtain ⟨f, ok, g, kp⟩ := c.ex
  exact StX.pe_callS1 ok hr kp hg g pass0 he hdb hst

/-- a walk over a list or a tuple -/
def SeqCase (K : PySem.W.Frag) (a : Addr) (H : Hp) (R : It → Hp → Prop) : Prop := ((∃ xs, SqL K H a xs) ∧ R (Itl K a) H) ∨ ((∃ xs, SqT K H a xs) ∧ R (Itt K a) H)
def iSeq (K : PySem.W.Frag) (tl : TE) : TI := fun σ H R => tl σ H fun x H1 => ∃ a, x = .ref a ∧ SeqCase K a H1 R
theorem pi_seq {tg l : Expr} {tl : TE} (hl : PE X l tl) : PI X tg l (iSeq X.K tl) := by
  refine ⟨fun pins s σ H R I h => ?_⟩
  refine thn (hl.run pins s σ H _ I h) fun v s1 ⟨x, H1, I1, r1, q1⟩ => ?_
  obtain ⟨a, e, q1⟩ := q1
  subst e
  cases r1
  rcases q1 with ⟨⟨xs, hq⟩, q⟩ | ⟨⟨xs, hq⟩, q⟩
  · obtain ⟨its, rv, p, hz⟩ := I1.list hq
    refine wpAny_pyIter_list p.isList ?_
    exact pi_one (tk := s1.toks) I1 _ (turn_list a _) ⟨_, Heap.get?_push_size _ rfl, rfl, rfl⟩ q
  · obtain ⟨its, rv, p, hz⟩ := I1.tuple hq
    refine wpAny_pyIter_tuple (show s1.heap.IsTuple a its.toArray from p) ?_
    exact pi_one (tk := s1.toks) I1 _ (turn_tuple a _) ⟨_, Heap.get?_push_size _ rfl, rfl, rfl⟩ q
end

/-! ### rules with the written part named (within a block) -/
section
variable {X : Cx} {K : PySem.W.Frag}
theorem ix_listK (h : X.K = K) : IxR X (rIxL K) := h ▸ ix_list
theorem ix_tupK (h : X.K = K) : IxR X (rIxT K) := h ▸ ix_tup
theorem op_in_seqK (h : X.K = K) : OpR X (compareOp .In) (rIn K false) := h ▸ op_in_seq
theorem call_list_ofK (h : X.K = K) : CallR X (.type "list") (fun xs H Q => ∃ p ys, xs = [.ref p] ∧ (SqL K H p ys ∨ SqT K H p ys) ∧ ∀ l, H l = none → Q (.ref l) (upd H l (.lst ys))) := by
  subst h
  exact call_list_of
theorem call_tuple_ofK (h : X.K = K) : CallR X (.type "tuple") (fun xs H Q => ∃ p ys, xs = [.ref p] ∧ ((SqL K H p ys ∧ ∀ l, H l = none → Q (.ref l) (upd H l (.tup ys))) ∨ (SqT K H p ys ∧ Q (.ref p) H))) := by
  subst h
  exact call_tuple_of
theorem call_len_seqK (h : X.K = K) : CallR X (.builtin "len") (fun xs H Q => ∃ p ys, xs = [.ref p] ∧ (SqL K H p ys ∨ SqT K H p ys) ∧ Q (.int ys.length) H) := by
  subst h
  exact call_len_seq
theorem cr_allK (h : X.K = K) (hc : X.calm = true) : CallR X (.builtin "all") (rAll K) := by
  subst h
  exact cr_all hc
theorem pg_tupK {es : List Expr} {k : Nat} {t : TGs} {n : Nat} {pos : Pos} (h : X.K = K) (hc : X.calm = true) (hs : PGs X es t)
    (hn : (assignEach es X.env).length = n := by rfl) (hst : (assignEach es X.env).findIdx? (·.1) = none := by rfl) : PG X (.Tuple es k pos) (gTup K n t) := by
  subst h
  exact pg_tup hc hs hn hst
theorem op_notIn_seqK (h : X.K = K) : OpR X (compareOp .NotIn) (rIn K true) := h ▸ op_notIn_seq
end

/-! ### heaps -/
theorem same_new {H : Hp} {p : Addr} {o : HO} (h : H p = none) : Same H (upd H p o) := fun b x e => by
  rw [upd_ne (ne_of_none e h)]
  exact e
theorem same_at {H H2 : Hp} {p : Addr} {o : HO} (h : H p = none) (s : Same H H2) : Same H (upd H2 p o) := fun b x e => by
  rw [upd_ne (ne_of_none e h)]
  exact s b x e
theorem Same.tup {K : PySem.W.Frag} {H H' : Hp} {a : Addr} {xs : List V} (e : Same H H') (h : SqT K H a xs) : SqT K H' a xs := by
  rcases h with (h | ⟨o, h⟩) | h
  · exact .inl (.inl (e _ _ h))
  · exact .inl (.inr ⟨o, e _ _ h⟩)
  · exact .inr h
theorem sq {K : PySem.W.Frag} {H : Hp} {a : Addr} {xs : List V} (h : H a = some (.lst xs)) : SqL K H a xs := Or.inl (Or.inl h)
theorem sqt {K : PySem.W.Frag} {H : Hp} {a : Addr} {xs : List V} (h : H a = some (.tup xs)) : SqT K H a xs := Or.inl (Or.inl h)
/-- all that was tracked but a is as it was -/
def SameBut (a : Addr) (H H' : Hp) : Prop := ∀ b o, b ≠ a → H b = some o → H' b = some o
theorem SameBut.refl (a : Addr) (H : Hp) : SameBut a H H := fun _ _ _ h => h
theorem SameBut.trans {a : Addr} {H H1 H2 : Hp} (x : SameBut a H H1) (y : SameBut a H1 H2) : SameBut a H H2 := fun b o n h => y b o n (x b o n h)
theorem Same.but {a : Addr} {H H' : Hp} (x : Same H H') : SameBut a H H' := fun b o _ h => x b o h
theorem SameBut.upd {a : Addr} {H : Hp} {o : HO} : SameBut a H (upd H a o) := fun b x n h => by
  rw [upd_ne n]
  exact h
/-- new objects do not disturb: what was tracked at H, where a was not -/
theorem SameBut.same {a : Addr} {H H1 H2 : Hp} (x : Same H H1) (n : H a = none) (y : SameBut a H1 H2) : Same H H2 := fun b o h => y b o (ne_of_none h n) (x b o h)
theorem sz {n : Nat} (h : n ≤ 100000) : n ≤ sizeLine := Nat.le_trans h (by decide)
theorem szl {n : Nat} (h : n < 100000) : n < sizeLine := Nat.lt_of_lt_of_le h (by decide)
/-- the source of draws at a -/
def Src (H : Hp) (a : Addr) : Prop := ∃ n c : Int, H a = some (.lst [.int n, .int c])

/-! ### data -/
mutual
theorem dp_same {K : PySem.W.Frag} {H H' : Hp} (e : Same H H') : ∀ {v : V} {d : PyData}, Dp K H v d → Dp K H' v d
  | _, _, .non => .non
  | _, _, .bl b => .bl b
  | _, _, .int i => .int i
  | _, _, .str x => .str x
  | _, _, .lst h a => .lst (e.seq h) (dpAll_same e a)
  | _, _, .tup h a => .tup (Bx.Same.tup e h) (dpAll_same e a)
theorem dpAll_same {K : PySem.W.Frag} {H H' : Hp} (e : Same H H') : ∀ {vs : List V} {ds : List PyData}, DpAll K H vs ds → DpAll K H' vs ds
  | _, _, .nil => .nil
  | _, _, .cons h a => .cons (dp_same e h) (dpAll_same e a)
end
theorem dp_strs {K : PySem.W.Frag} {H : Hp} : ∀ ys : List Str, DpAll K H (ys.map V.str) (ys.map PyData.str)
  | [] => .nil
  | y :: ys => .cons (.str y) (dp_strs ys)
theorem dp_ints {K : PySem.W.Frag} {H : Hp} : ∀ ys : List Int, DpAll K H (ys.map V.int) (ys.map PyData.int)
  | [] => .nil
  | y :: ys => .cons (.int y) (dp_ints ys)
theorem dp_map {K : PySem.W.Frag} {H : Hp} {α : Type} {f : α → V} {g : α → PyData} : ∀ {l : List α}, (∀ x ∈ l, Dp K H (f x) (g x)) → DpAll K H (l.map f) (l.map g)
  | [], _ => .nil
  | x :: l, h => .cons (h x List.mem_cons_self) (dp_map fun y hy => h y (List.mem_cons_of_mem _ hy))

/-! ### walks with any body -/
theorem walk_any {J : It} {n : Nat} {G : Hp → Prop} {Y : Nat → Hp → V → Hp → Prop} (w : Walk J n G Y) {Z : Hp → Prop} {B : (Hp → Prop) → V → Hp → Prop} {H0 : Hp} (Pv : Nat → Hp → Prop) (h0 : Pv 0 H0) (hG : ∀ i H, i ≤ n → Pv i H → G H)
    (hs : ∀ i x H H', i < n → Pv i H → Y i H x H' → B (Pv (i + 1)) x H') (hd : ∀ H, Pv n H → Z H) :
    ∃ W : Nat → Nat → Hp → Prop, (∃ m, W 0 m H0) ∧ ∀ i m H, W i m H → (J.stop i H ∧ Z H) ∨ (J.go i H ∧ ∃ Nx : Hp → Prop, (∀ H', Nx H' → ∃ m', m' < m ∧ W (i + 1) m' H') ∧ ∀ x H', J.yld i H x H' → B Nx x H') := by
  refine ⟨fun i m H => m = n - i ∧ i ≤ n ∧ Pv i H, ⟨n, by simp, Nat.zero_le _, h0⟩, ?_⟩
  rintro i m H ⟨rfl, hi, p⟩
  have q := hG i H hi p
  by_cases hlt : i < n
  · exact .inr ⟨w.goes i H hlt q, Pv (i + 1), fun H' p' => ⟨n - (i + 1), by omega, rfl, hlt, p'⟩, fun x H' y => hs i x H H' hlt p (w.yields i H x H' hlt q y)⟩
  · have e : i = n := by omega
    subst e
    exact .inl ⟨w.stops H q, hd H p⟩

/-! ### a def with a star parameter alone -/
theorem okStar {P : Program} {w : World} {K : PySem.W.Frag} {mg : Str → Option Value} {base : Heap} {x qual pn : Str} {st : Stmt} {f : Addr} {fd : FuncData} {N : List Str} {k : Nat} {sp : Sp} (F : Fun K x qual st f fd) (S : FnScope N [pn] (defScope st))
    (hb : ∀ (kV doc pm : Value) (an : Option Addr) (cdv ct : Value) (rest : List Value), bindArgs (PySem.W.fnOf x qual (defArgs st) (defBody st) (defScope st) .none kV doc pm an cdv ct) ⟨rest, []⟩ = (newTuple rest >>= fun t => pure [(pn, t)]))
    (hbody : ∀ (cdv : Value) (A : Around) (outer : List Env) (s : Shared) (H : Hp) (vs : List V) (Q : VK) (E : XK), Room k (A.deeper (envOfC qual (defScope st) s.heap.objs.size f cdv)) → sp vs H Q E →
      ∃ t, PSs (cxOf CX0 P w K mg base N qual (defScope st) f cdv A outer s H E) (defBody st) t ∧ t { nx := fun _ H' => Q .non H', rt := Q } (start N vs) H) :
    FnR P w K mg base CX0 (k + 1) f (fun vs H Q E => vs.length ≤ sizeLine ∧ ∀ p, H p = none → sp [V.ref p] (upd H p (.tup vs)) Q E) := by
  obtain ⟨oc, od, kV, doc, pm, an, cdv, ct, osl, rfl, lk, hcd⟩ := F.ex
  have z := StX.fn_star (P := P) (w := w) (K := K) (mg := mg) (base := base) (CX := CX0) (ps := []) (sp := sp) lk hcd S StX.cxUp_none (fun us rest hl => by
    have e : us = [] := List.length_eq_zero_iff.mp hl
    subst e
    exact hb kV doc pm an cdv ct rest) (hbody cdv)
  exact z.imp fun vs H Q E h => ⟨[], vs, rfl, rfl, h.1, h.2⟩

/-- one parameter ahead of the star -/
theorem okStar1 {P : Program} {w : World} {K : PySem.W.Frag} {mg : Str → Option Value} {base : Heap} {x qual p1 pn : Str} {st : Stmt} {f : Addr} {fd : FuncData} {N : List Str} {k : Nat} {sp : Sp} (F : Fun K x qual st f fd) (S : FnScope N [p1, pn] (defScope st))
    (h0 : ∀ (kV doc pm : Value) (an : Option Addr) (cdv ct a : Value), bindArgs (PySem.W.fnOf x qual (defArgs st) (defBody st) (defScope st) .none kV doc pm an cdv ct) ⟨[a], []⟩ = (newTuple [] >>= fun t => pure [(p1, a), (pn, t)]))
    (h1 : ∀ (kV doc pm : Value) (an : Option Addr) (cdv ct a r : Value) (rs : List Value), bindArgs (PySem.W.fnOf x qual (defArgs st) (defBody st) (defScope st) .none kV doc pm an cdv ct) ⟨a :: r :: rs, []⟩ = (newTuple (r :: rs) >>= fun t => pure [(p1, a), (pn, t)]))
    (hbody : ∀ (cdv : Value) (A : Around) (outer : List Env) (s : Shared) (H : Hp) (vs : List V) (Q : VK) (E : XK), Room k (A.deeper (envOfC qual (defScope st) s.heap.objs.size f cdv)) → sp vs H Q E →
      ∃ t, PSs (cxOf CX0 P w K mg base N qual (defScope st) f cdv A outer s H E) (defBody st) t ∧ t { nx := fun _ H' => Q .non H', rt := Q } (start N vs) H) :
    FnR P w K mg base CX0 (k + 1) f (fun vs H Q E => ∃ v rest, vs = v :: rest ∧ rest.length ≤ sizeLine ∧ ∀ p, H p = none → sp [v, V.ref p] (upd H p (.tup rest)) Q E) := by
  obtain ⟨oc, od, kV, doc, pm, an, cdv, ct, osl, rfl, lk, hcd⟩ := F.ex
  have z := StX.fn_star (P := P) (w := w) (K := K) (mg := mg) (base := base) (CX := CX0) (ps := [p1]) (sp := sp) lk hcd S StX.cxUp_none
    (StX.bind_star1 (B := fun us => bindArgs (PySem.W.fnOf x qual (defArgs st) (defBody st) (defScope st) .none kV doc pm an cdv ct) ⟨us, []⟩) (h0 kV doc pm an cdv ct) (h1 kV doc pm an cdv ct)) (hbody cdv)
  exact z.imp fun vs H Q E ⟨v, rest, e, hl, h⟩ => ⟨[v], rest, e, rfl, hl, h⟩

/-! ### a walk over a list or a tuple, told once -/
theorem seq_case {K : PySem.W.Frag} {H : Hp} {a : Addr} {xs : List V} {R : It → Hp → Prop} (h : SqL K H a xs ∨ SqT K H a xs) (k : ∀ (J : It) (G : Hp → Prop), Walk J xs.length G (YAt xs) → (∀ H', Same H H' → G H') → R J H) : SeqCase K a H R := by
  rcases h with h | h
  · exact .inl ⟨⟨_, h⟩, k _ _ walk_list fun H' s => s.seq h⟩
  · exact .inr ⟨⟨_, h⟩, k _ _ walk_tup fun H' s => Bx.Same.tup s h⟩
theorem at_map {α : Type} {l : List α} {f : α → V} {i : Nat} {x : V} (h : (l.map f)[i]? = some x) : ∃ y, l[i]? = some y ∧ x = f y := by
  rw [List.getElem?_map] at h
  cases e : l[i]? with
  | none =>
    rw [e] at h
    cases h
  | some y =>
    rw [e] at h
    exact ⟨y, rfl, (Option.some.inj h).symm⟩

/-! ### texts in ascending order -/
theorem rising_at : ∀ (p : Str) (r : List Str), risingS p r = true → ∀ (k : Nat) (x y : Str), (p :: r)[k]? = some x → (p :: r)[k + 1]? = some y → ltCps y.cps.toList x.cps.toList = false
  | p, [], _, k, x, y, _, h2 => by
    simp at h2
  | p, q :: r, h, k, x, y, h1, h2 => by
    have h3 : (!ltCps q.cps.toList p.cps.toList && risingS q r) = true := h
    rw [Bool.and_eq_true] at h3
    cases k with
    | zero =>
      have e1 : p = x := Option.some.inj h1
      have e2 : q = y := Option.some.inj h2
      rw [← e1, ← e2]
      simpa using h3.1
    | succ k => exact rising_at q r h3.2 k x y h1 h2
theorem sorted_at {l : List Str} (h : sortedS l = true) (nd : l.Nodup) {k : Nat} {x y : Str} (h1 : l[k]? = some x) (h2 : l[k + 1]? = some y) : x.cps.toList < y.cps.toList := by
  cases l with
  | nil => cases h1
  | cons p r =>
    have a := rising_at p r h k x y h1 h2
    rw [ltCps_eq] at a
    refine Std.lt_of_le_of_ne (of_decide_eq_false a) fun e => ?_
    have e2 : x = y := ext_tl e
    obtain ⟨i1, e3⟩ := List.getElem?_eq_some_iff.mp h1
    obtain ⟨i2, e4⟩ := List.getElem?_eq_some_iff.mp h2
    have z := List.pairwise_iff_getElem.mp nd k (k + 1) i1 i2 (Nat.lt_succ_self k)
    exact z (e3.trans (e2.trans e4.symm))

/-! ### membership of texts -/
theorem inV_str (x : Str) (ys : List Str) : inV (.str x) (ys.map V.str) = decide (x ∈ ys) := by
  unfold inV
  rw [List.any_map]
  induction ys with
  | nil => rfl
  | cons y ys ih =>
    rw [List.any_cons, ih]
    show ((y == x) || _) = _
    by_cases e : y = x
    · subst e
      simp
    · have e2 : (y == x) = false := by simpa using e
      rw [e2, Bool.false_or]
      by_cases h : x ∈ ys
      · rw [decide_eq_true h, decide_eq_true (List.mem_cons_of_mem _ h)]
      · rw [decide_eq_false h, decide_eq_false (fun z => (List.mem_cons.mp z).elim (fun z => e z.symm) h)]
theorem flat_all (ys : List Str) : (ys.map V.str).all flatV = true := by
  rw [List.all_map, List.all_eq_true]
  intro y _
  rfl
theorem lay_strs : ∀ ys : List Str, (∀ y ∈ ys, PyData.strOk y = true) → PyData.canLayAll0 (ys.map PyData.str) = true ∧ PyData.depthAll (ys.map PyData.str) ≤ 1
  | [], _ => ⟨rfl, by decide⟩
  | y :: ys, h => by
    obtain ⟨a, b⟩ := lay_strs ys fun z hz => h z (List.mem_cons_of_mem _ hz)
    constructor
    · show (PyData.strOk y && PyData.canLayAll0 (ys.map PyData.str)) = true
      rw [a, h y List.mem_cons_self]
      rfl
    · show max (PyData.depth (.str y)) (PyData.depthAll (ys.map PyData.str)) ≤ 1
      exact Nat.max_le.mpr ⟨by first | exact Nat.zero_le _ | decide | exact Nat.le_refl _, b⟩
theorem lay_lists : ∀ L : List (List Str), (∀ ys ∈ L, ∀ y ∈ ys, PyData.strOk y = true) → PyData.canLayAll0 (L.map fun ys => PyData.list (ys.map PyData.str)) = true ∧ PyData.depthAll (L.map fun ys => PyData.list (ys.map PyData.str)) ≤ 2
  | [], _ => ⟨rfl, by decide⟩
  | ys :: L, h => by
    obtain ⟨a, b⟩ := lay_lists L fun z hz => h z (List.mem_cons_of_mem _ hz)
    obtain ⟨c, d⟩ := lay_strs ys (h ys List.mem_cons_self)
    constructor
    · show (PyData.canLayAll0 (ys.map PyData.str) && PyData.canLayAll0 (L.map fun ys => PyData.list (ys.map PyData.str))) = true
      rw [a, c]
      rfl
    · show max (PyData.depthAll (ys.map PyData.str) + 1) (PyData.depthAll (L.map fun ys => PyData.list (ys.map PyData.str))) ≤ 2
      exact Nat.max_le.mpr ⟨by omega, b⟩

/-! ### signs of a written text -/
theorem pick {L : Str} {r : Int} (h0 : 0 ≤ r) (h1 : r < (tl L).length) : ∃ c, atI L.cps.toList r = some c ∧ c ∈ tl L := by
  obtain ⟨n, rfl⟩ := Int.eq_ofNat_of_zero_le h0
  have hn : n < (tl L).length := by omega
  exact ⟨(tl L)[n], atI_nat (List.getElem?_eq_getElem hn), List.getElem_mem hn⟩
end Bx
/-! Data that stands in the heap, beside objects that change; rules told of data. -/
namespace Dx
open PySem PySem.Spec PyProof.Rows L2 Bx TL

/-! ### the heap without some addresses -/
def mn (H : Hp) (S : List Addr) : Hp := fun b => if b ∈ S then none else H b
theorem mn_in {H : Hp} {S : List Addr} {b : Addr} (h : b ∈ S) : mn H S b = none := if_pos h
theorem mn_out {H : Hp} {S : List Addr} {b : Addr} (h : b ∉ S) : mn H S b = H b := if_neg h
theorem mn_same {H : Hp} {S : List Addr} : Same (mn H S) H := fun b o e => by
  by_cases h : b ∈ S
  · rw [mn_in h] at e
    cases e
  · rw [mn_out h] at e
    exact e
theorem mn_nil {H : Hp} : mn H [] = H := funext fun b => mn_out (by simp)
theorem mn_sub {H : Hp} {S T : List Addr} (h : ∀ b, b ∈ S → b ∈ T) : Same (mn H T) (mn H S) := fun b o e => by
  by_cases h1 : b ∈ T
  · rw [mn_in h1] at e
    cases e
  · rw [mn_out h1] at e
    rw [mn_out fun z => h1 (h b z)]
    exact e
theorem mn_upd {H : Hp} {S : List Addr} {a : Addr} {o : HO} (h : a ∈ S) : mn (upd H a o) S = mn H S := funext fun b => by
  by_cases h1 : b ∈ S
  · rw [mn_in h1, mn_in h1]
  · rw [mn_out h1, mn_out h1, upd_ne (show b ≠ a from fun z => h1 (by rw [z]; exact h))]
theorem mn_new {H : Hp} {S : List Addr} {p : Addr} {o : HO} (h : H p = none) : Same (mn H S) (mn (upd H p o) S) := fun b u e => by
  by_cases h1 : b ∈ S
  · rw [mn_in h1] at e
    cases e
  · rw [mn_out h1] at e ⊢
    rw [upd_ne (ne_of_none e h)]
    exact e
theorem mn_but {H H' : Hp} {S : List Addr} {a : Addr} (h : a ∈ S) (s : SameBut a H H') : Same (mn H S) (mn H' S) := fun b u e => by
  by_cases h1 : b ∈ S
  · rw [mn_in h1] at e
    cases e
  · rw [mn_out h1] at e ⊢
    exact s b u (fun z => h1 (z ▸ h)) e
theorem mn_all {H H' : Hp} {S : List Addr} (s : Same H H') : Same (mn H S) (mn H' S) := fun b u e => by
  by_cases h1 : b ∈ S
  · rw [mn_in h1] at e
    cases e
  · rw [mn_out h1] at e ⊢
    exact s b u e
theorem mn_to {H H' : Hp} {S T : List Addr} (h : ∀ b, b ∈ S → b ∈ T) (s : Same (mn H S) (mn H' S)) : Same (mn H T) (mn H' T) := fun b u e => by
  by_cases h1 : b ∈ T
  · rw [mn_in h1] at e
    cases e
  · rw [mn_out h1] at e ⊢
    have z := s b u (by rw [mn_out fun z => h1 (h b z)]; exact e)
    rw [mn_out fun z => h1 (h b z)] at z
    exact z
/-- what is tracked beside S was there, or is new -/
theorem mn_at {H : Hp} {S : List Addr} {b : Addr} {o : HO} (h : b ∉ S) (e : H b = some o) : mn H S b = some o := by
  rw [mn_out h]
  exact e
theorem mn_keep {H H' : Hp} {S : List Addr} (s : Same (mn H S) (mn H' S)) {b : Addr} {o : HO} (h : b ∉ S) (e : H b = some o) : H' b = some o := mn_same _ _ (s _ _ (mn_at h e))
theorem mn_free {H H' : Hp} {S : List Addr} (s : Same (mn H S) (mn H' S)) {b : Addr} (h : b ∉ S) (e : H' b = none) : H b = none := by
  cases z : H b with
  | none => rfl
  | some o =>
    rw [mn_keep s h z] at e
    cases e

/-! ### data -/
section
variable {K : PySem.W.Frag} {H : Hp}
theorem dp_lst {v : V} {ds : List PyData} (h : Dp K H v (.list ds)) : ∃ a xs, v = .ref a ∧ SqL K H a xs ∧ DpAll K H xs ds := by
  cases h with
  | lst s a => exact ⟨_, _, rfl, s, a⟩
theorem dp_tup {v : V} {ds : List PyData} (h : Dp K H v (.tuple ds)) : ∃ a xs, v = .ref a ∧ SqT K H a xs ∧ DpAll K H xs ds := by
  cases h with
  | tup s a => exact ⟨_, _, rfl, s, a⟩
theorem dp_str {v : V} {s : Str} (h : Dp K H v (.str s)) : v = .str s := by cases h; rfl
theorem dp_int {v : V} {i : Int} (h : Dp K H v (.int i)) : v = .int i := by cases h; rfl
theorem da_len : ∀ {xs : List V} {ds : List PyData}, DpAll K H xs ds → xs.length = ds.length
  | _, _, .nil => rfl
  | _, _, .cons _ t => congrArg (· + 1) (da_len t)
theorem da_get : ∀ {xs : List V} {ds : List PyData}, DpAll K H xs ds → ∀ {i : Nat} {d : PyData}, ds[i]? = some d → ∃ v, xs[i]? = some v ∧ Dp K H v d
  | _, _, .nil, i, d, e => by cases e
  | _, _, .cons h t, 0, d, e => by
    cases e
    exact ⟨_, rfl, h⟩
  | _, _, .cons h t, i + 1, d, e => da_get t e
theorem da_at : ∀ {xs : List V} {ds : List PyData}, DpAll K H xs ds → ∀ {i : Nat} {v : V}, xs[i]? = some v → ∃ d, ds[i]? = some d ∧ Dp K H v d
  | _, _, .nil, i, d, e => by cases e
  | _, _, .cons h t, 0, d, e => by
    cases e
    exact ⟨_, rfl, h⟩
  | _, _, .cons h t, i + 1, d, e => da_at t e
theorem da_app : ∀ {xs ys : List V} {ds es : List PyData}, DpAll K H xs ds → DpAll K H ys es → DpAll K H (xs ++ ys) (ds ++ es)
  | _, _, _, _, .nil, h => h
  | _, _, _, _, .cons h t, k => .cons h (da_app t k)
theorem da_one {v : V} {d : PyData} (h : Dp K H v d) : DpAll K H [v] [d] := .cons h .nil
theorem da_strs : ∀ {xs : List V} {ns : List Str}, DpAll K H xs (ns.map PyData.str) → xs = ns.map V.str
  | [], [], _ => rfl
  | [], _ :: _, h => by cases h
  | _ :: _, [], h => by cases h
  | x :: xs, n :: ns, h => by
    cases h with
    | cons h t =>
      rw [dp_str h, da_strs t]
      rfl
theorem da_ints : ∀ {xs : List V} {ns : List Int}, DpAll K H xs (ns.map PyData.int) → xs = ns.map V.int
  | [], [], _ => rfl
  | [], _ :: _, h => by cases h
  | _ :: _, [], h => by cases h
  | x :: xs, n :: ns, h => by
    cases h with
    | cons h t =>
      rw [dp_int h, da_ints t]
      rfl
theorem da_take : ∀ {xs : List V} {ds : List PyData}, DpAll K H xs ds → ∀ n, DpAll K H (xs.take n) (ds.take n)
  | _, _, .nil, n => by
    rw [List.take_nil, List.take_nil]
    exact .nil
  | _, _, .cons h t, 0 => .nil
  | _, _, .cons h t, n + 1 => .cons h (da_take t n)
/-- the strs of a tuple of texts -/
theorem dp_names {v : V} {ns : List Str} (h : Dp K H v (.tuple (ns.map PyData.str))) : ∃ a, v = .ref a ∧ SqT K H a (ns.map V.str) := by
  obtain ⟨a, xs, rfl, s, t⟩ := dp_tup h
  rw [da_strs t] at s
  exact ⟨a, rfl, s⟩
theorem dp_namesL {v : V} {ns : List Str} (h : Dp K H v (.list (ns.map PyData.str))) : ∃ a, v = .ref a ∧ SqL K H a (ns.map V.str) := by
  obtain ⟨a, xs, rfl, s, t⟩ := dp_lst h
  rw [da_strs t] at s
  exact ⟨a, rfl, s⟩
theorem names_dp {a : Addr} {ns : List Str} (h : SqT K H a (ns.map V.str)) : Dp K H (.ref a) (.tuple (ns.map PyData.str)) := .tup h (dp_strs ns)
theorem namesL_dp {a : Addr} {ns : List Str} (h : SqL K H a (ns.map V.str)) : Dp K H (.ref a) (.list (ns.map PyData.str)) := .lst h (dp_strs ns)
end

/-! ### what may be compared: no dicts, not too deep -/
def Lay (n : Nat) (d : PyData) : Prop := d.canLay0 = true ∧ d.depth ≤ n
def Lays (n : Nat) (ds : List PyData) : Prop := PyData.canLayAll0 ds = true ∧ PyData.depthAll ds ≤ n
theorem lays_nil {n : Nat} : Lays n [] := ⟨rfl, Nat.zero_le _⟩
theorem lays_cons {n : Nat} {d : PyData} {ds : List PyData} (h : Lay n d) (t : Lays n ds) : Lays n (d :: ds) := by
  constructor
  · show (d.canLay0 && PyData.canLayAll0 ds) = true
    rw [h.1, t.1]
    rfl
  · show max d.depth (PyData.depthAll ds) ≤ n
    exact Nat.max_le.mpr ⟨h.2, t.2⟩
theorem lays_of {n : Nat} : ∀ {ds : List PyData}, (∀ d ∈ ds, Lay n d) → Lays n ds
  | [], _ => lays_nil
  | d :: ds, h => lays_cons (h d List.mem_cons_self) (lays_of fun x hx => h x (List.mem_cons_of_mem _ hx))
theorem lay_tuple {n : Nat} {ds : List PyData} (h : Lays n ds) : Lay (n + 1) (.tuple ds) := ⟨h.1, Nat.succ_le_succ h.2⟩
theorem lay_list {n : Nat} {ds : List PyData} (h : Lays n ds) : Lay (n + 1) (.list ds) := ⟨h.1, Nat.succ_le_succ h.2⟩
theorem lay_int {n : Nat} {i : Int} : Lay n (.int i) := ⟨rfl, Nat.zero_le _⟩
theorem lay_str {n : Nat} {s : Str} (h : PyData.strOk s = true) : Lay n (.str s) := ⟨h, Nat.zero_le _⟩
theorem lay_up {m n : Nat} {d : PyData} (h : Lay m d) (k : m ≤ n) : Lay n d := ⟨h.1, Nat.le_trans h.2 k⟩
theorem lays_up {m n : Nat} {ds : List PyData} (h : Lays m ds) (k : m ≤ n) : Lays n ds := ⟨h.1, Nat.le_trans h.2 k⟩
theorem lays_mem {n : Nat} : ∀ {ds : List PyData}, Lays n ds → ∀ d ∈ ds, Lay n d
  | d :: ds, h, x, hx => by
    have h1 : (d.canLay0 && PyData.canLayAll0 ds) = true := h.1
    have h2 : max d.depth (PyData.depthAll ds) ≤ n := h.2
    rw [Bool.and_eq_true] at h1
    rw [Nat.max_le] at h2
    rcases List.mem_cons.mp hx with e | e
    · rw [e]
      exact ⟨h1.1, h2.1⟩
    · exact lays_mem ⟨h1.2, h2.2⟩ x e
theorem lays_strs {n : Nat} {ns : List Str} (h : ∀ s ∈ ns, PyData.strOk s = true) : Lays n (ns.map PyData.str) := lays_of fun d hd => by
  obtain ⟨s, hs, rfl⟩ := List.mem_map.mp hd
  exact lay_str (h s hs)
theorem lays_ints {n : Nat} {ns : List Int} : Lays n (ns.map PyData.int) := lays_of fun d hd => by
  obtain ⟨s, _, rfl⟩ := List.mem_map.mp hd
  exact lay_int
theorem shape {n : Nat} {d : PyData} (h : Lay n d) (k : n ≤ 64) : SeqAt.shaped d = true := by
  unfold SeqAt.shaped
  rw [Bool.and_eq_true]
  exact ⟨h.1, decide_eq_true (Nat.le_trans h.2 k)⟩
theorem eq_refl {n : Nat} {d : PyData} (h : Lay n d) : PyData.eqv d d = true := SeqAt.eqv_refl d h.1

/-! ### strict order of lists of texts, and equal lists -/
def Asc (l : List Str) : Prop := l.Pairwise fun x y => x.cps.toList < y.cps.toList
theorem asc_of : ∀ {l : List Str}, sortedS l = true → l.Nodup → Asc l := by
  intro l h nd
  have key : ∀ (d i : Nat) (x y : Str), l[i]? = some x → l[i + (d + 1)]? = some y → x.cps.toList < y.cps.toList := by
    intro d
    induction d with
    | zero => exact fun i x y h1 h2 => sorted_at h nd h1 h2
    | succ d ih =>
      intro i x y h1 h2
      have hl : i + (d + 1) < l.length := by
        have := (List.getElem?_eq_some_iff.mp h2).1
        omega
      have h3 : l[i + (d + 1)]? = some l[i + (d + 1)] := List.getElem?_eq_getElem hl
      exact List.lt_trans (ih i x _ h1 h3) (sorted_at h nd h3 h2)
  refine List.pairwise_iff_getElem.mpr fun i j hi hj hij => ?_
  exact key (j - i - 1) i _ _ (List.getElem?_eq_getElem hi) (by rw [show i + (j - i - 1 + 1) = j by omega]; exact List.getElem?_eq_getElem hj)
theorem asc_nodup {l : List Str} (h : Asc l) : l.Nodup := List.Pairwise.imp (fun {x y} hxy e => by
  rw [e] at hxy
  exact List.lt_irrefl _ hxy) h
theorem asc_eq : ∀ {l m : List Str}, Asc l → Asc m → (∀ x, x ∈ l ↔ x ∈ m) → l = m
  | [], [], _, _, _ => rfl
  | [], y :: m, _, _, h => absurd ((h y).mpr List.mem_cons_self) (by simp)
  | x :: l, [], _, _, h => absurd ((h x).mp List.mem_cons_self) (by simp)
  | x :: l, y :: m, h1, h2, h => by
    obtain ⟨a1, a2⟩ := List.pairwise_cons.mp h1
    obtain ⟨b1, b2⟩ := List.pairwise_cons.mp h2
    have e : x = y := by
      rcases List.mem_cons.mp ((h x).mp List.mem_cons_self) with e | e
      · exact e
      · rcases List.mem_cons.mp ((h y).mpr List.mem_cons_self) with e' | e'
        · exact e'.symm
        · exact absurd (List.lt_trans (a1 y e') (b1 x e)) (List.lt_irrefl _)
    subst e
    have nl : x ∉ l := fun z => List.lt_irrefl _ (a1 x z)
    have nm : x ∉ m := fun z => List.lt_irrefl _ (b1 x z)
    rw [asc_eq a2 b2 fun z => ⟨fun hz => (List.mem_cons.mp ((h z).mp (List.mem_cons_of_mem _ hz))).resolve_left fun e => nl (e ▸ hz), fun hz => (List.mem_cons.mp ((h z).mpr (List.mem_cons_of_mem _ hz))).resolve_left fun e => nm (e ▸ hz)⟩]

/-! ### sorted(xs), xs tuples of ints of one length: some order -/
def rSortRows (K : PySem.W.Frag) : List V → Hp → VK → Prop := fun vs H Q => ∃ (a : Addr) (xs : List V) (d : Nat) (B : Int), vs = [V.ref a] ∧ SqL K H a xs ∧ xs.length < 64 ∧ (∀ x ∈ xs, ∃ ns, TupI K H x ns ∧ ns.length = d ∧ TS.Bd B ns) ∧ (d = 0 → xs.length ≤ 1) ∧
  ∀ (ys : List V) (p : Addr), ys.Perm xs → H p = none → Q (.ref p) (upd H p (.lst ys))
theorem cr_sortRows {X : Cx} : CallR X (.builtin "sorted") (rSortRows X.K) := by
  intro pins s σ H vs us Q I r h
  obtain ⟨a, xs, d, B, rfl, hs, h64, hx, h1, q⟩ := h
  by_cases hd : 1 ≤ d
  · exact cr_sortT hd pins s σ H _ us Q I r ⟨a, xs, rfl, hs, h64, hx, fun ys p pm _ n => q ys p pm n⟩
  · have hl1 : xs.length ≤ 1 := h1 (by omega)
    obtain ⟨its, rv, hl, hz⟩ := I.list hs
    have hlen := rv.length
    rw [Vals.ref1 r]
    refine Srt.sorted_any hl.isList (by rw [← hlen]; exact hz) (fun h2 => absurd h2 (by omega)) fun out hp => ?_
    have e : out = its := by
      match its, hlen, hp with
      | [], _, hp => exact hp.eq_nil
      | [v], _, hp => exact List.perm_singleton.mp hp
      | _ :: _ :: _, hlen, _ =>
        simp only [List.length_cons] at hlen
        omega
    subst e
    obtain ⟨ep, he'⟩ := PyProof.Rows.sortedAll_at s.heap out out.toArray
    exact ⟨.ref _, upd H (s.heap.objs.size + 1) (.lst xs), I.laid (t' := s.toks) (fun _ _ => PyProof.Rows.sortedAll_old) (Nat.le_succ _) ⟨hz, out, ep, rv, by simpa using he'⟩, rfl, q xs _ (List.Perm.refl _) (I.hok.fresh (Nat.le_succ _))⟩

/-! ### the room of a call for a comparison of data -/
theorem room {k : Nat} {A : Around} (r : Room k A) : A.units + 65 < cLine := by
  have := r.un
  omega

/-! ### a list or a tuple of data -/
theorem dp_seq {K : PySem.W.Frag} {H : Hp} {v : V} {ds : List PyData} (h : Dp K H v (.list ds) ∨ Dp K H v (.tuple ds)) : ∃ a xs, v = .ref a ∧ DpAll K H xs ds ∧ (SqL K H a xs ∨ SqT K H a xs) := by
  rcases h with h | h
  · obtain ⟨a, xs, rfl, s, t⟩ := dp_lst h
    exact ⟨a, xs, rfl, t, .inl s⟩
  · obtain ⟨a, xs, rfl, s, t⟩ := dp_tup h
    exact ⟨a, xs, rfl, t, .inr s⟩

/-! ### name = {k: v for ..} -/
section
variable {X : Cx}
theorem ps_setDc {i : Nat} {y : Str} {py : Pos} {kx vx tg iter : Expr} {ifs : List Expr} {scope : Scope} {own : List (Str × Nat)} {pos spos : Pos} {wi : TI} {g : TG} {tt : TT} {tk tv : TE} (hc : X.calm = true) (hN : X.N.Nodup) (hy : X.N[i]? = some y) (hyl : X.env.scope.names.lookup y = some .local)
    (hsw : swapsWith (.DictComp kx vx [⟨tg, iter, ifs, 0⟩] scope pos) (some (.Name y py)) spos.line X.env = pure true) (hi : PI X tg iter wi) (ok : BlkOk X.N X.env.scope scope own)
    (hg : ∀ (s : Shared) (H : Hp) (C : Addr) (cl : List (Str × Addr)) (fp : List Addr), PG (X.blk s H scope (compEnvC scope cl C X.env) fp) tg g) (ht : ∀ (s : Shared) (H : Hp) (C : Addr) (cl : List (Str × Addr)) (fp : List Addr), PTs (X.blk s H scope (compEnvC scope cl C X.env) fp) ifs tt)
    (hk : ∀ (s : Shared) (H : Hp) (C : Addr) (cl : List (Str × Addr)) (fp : List Addr), PE (X.blk s H scope (compEnvC scope cl C X.env) fp) kx tk)
    (he : ∀ (s : Shared) (H : Hp) (C : Addr) (cl : List (Str × Addr)) (fp : List Addr), PE (X.blk s H scope (compEnvC scope cl C X.env) fp) vx tv) (hs : ∀ x, foldedSetIterable iter X.env x = pure x := by intro _; rfl) :
    PS X (.Assign [.Name y py] (.DictComp kx vx [⟨tg, iter, ifs, 0⟩] scope pos) spos) (tAsg (tDc wi g tt tk tv (own.map (·.2))) (gName i)) := by
  refine ⟨fun pins s σ H D I h => ?_⟩
  rw [exec_Assign_Name_used _ _ _ _ hsw]
  refine wpAny_bind (wpAny_standAt (wpAny_bind ?_))
  show wpAny _ X.A (do let _ ← comprehension (.DictComp kx vx [⟨tg, iter, ifs, 0⟩] scope pos) scope X.env _ newDict false (eval iter X.env) (some (assign (.Name y py) X.env))) _ _ s
  have h : tDc wi g tt tk tv (own.map (·.2)) σ H (fun x H1 => gName i x σ H1 D.nx) := h
  refine wpAny_bind (thn (dc_core (Qf := fun _ s' => SP X pins D .next s') hc hN I hi ok hg ht hk he hs h fun L C s' m H' I' q hn f => ?_) fun _ s' hq => wpAny_pure (wpAny_pure hq))
  show wpAny _ _ (assign (.Name y py) X.env (.ref L)) _ _ _
  refine wpAny_assign_Name (store_ok2 (v := V.ref L) I' hN hy (.inl hyl) rfl (fun s2 I2 ⟨a, sb, ha⟩ => ?_) (.inr hyl))
  obtain ⟨f0, f1, f2, f3, f4, f5⟩ := f
  have haC : C ≠ a := by
    rcases ha with z | z
    · rw [z]; exact f1
    · exact fun e => f4 y a z e.symm
  refine ⟨m, hn.sameBut sb haC, fun h3 sb3 => ?_⟩
  exact ⟨_, H', I2.turned (t' := s2.toks) (fun b o hb e => (sb3.2 b hb).trans e) f0 f1 f3 f4 f5, q⟩
theorem sw_trueD {kx vx : Expr} {gs : List Comprehension} {scope : Scope} {pos py : Pos} {y : Str} {l : Nat} {env : Env} (hk : env.scope.kind = .function) (hy : env.scope.names.lookup y = some .local) (hl : (py.line == pos.line) = true)
    (ha : (scope.names.any fun (n, k) => n == y && (k == .local || k == .cell)) = false) : swapsWith (.DictComp kx vx gs scope pos) (some (.Name y py)) l env = pure true := by
  have ky : env.kindOf y = some .local := hy
  have hb : env.blockKind = .function := by unfold Env.blockKind; rw [hk]; rfl
  unfold swapsWith
  simp only [hb, ky, ha, Expr.pos, hl]
  rfl
end
end Dx
/-! An own exception's __init__ that begins with super().__init__(e), over ValueError. -/
namespace Sup
open PySem PySem.Spec PyProof.Rows L2 NdefX
abbrev vei : String := "ValueError.__init__"
def mwO (u a : Addr) : HO := .ext fun h => h.get? u = some (PySem.W.kxs_mw vei a)
theorem mwO_ok {P : Program} {w : World} {H : Hp} {h : Heap} {u a : Addr} (e : h.get? u = some (PySem.W.kxs_mw vei a)) : ObjOk P w H h u (mwO u a) := ⟨e, ⟨_, e⟩, fun h1 h2 z k => k _ z⟩
theorem mwO_at {P : Program} {w : World} {H : Hp} {h : Heap} {u a : Addr} (hok : HOk P w H h) (e : H u = some (mwO u a)) : h.get? u = some (PySem.W.kxs_mw vei a) := by
  have x : ObjOk P w H h u (.ext fun h => h.get? u = some (PySem.W.kxs_mw vei a)) := hok u _ e
  exact x.1
/-- what the written part says of a def that says super() -/
structure SupF (P : Program) (K : PySem.W.Frag) (mg : Str → Option Value) (env : Env) (sn : Str) (D : Addr) : Prop where
  ks : env.kindOf "super" = some .globalImplicit
  kc : env.kindOf "__class__" = some .free
  fn : ∃ (f : Addr) (oc : Value) (od : Option Addr) (fd : FuncData) (osl : Array (Option Value)) (ar : Arg), env.func = some f ∧ K.lookup f = some ⟨oc, od, .func fd, osl⟩ ∧ (fd.params.posonlyargs ++ fd.params.args).head? = some ar ∧ ar.arg = sn
  co : ∃ (cda : Addr) (ccl : Value) (cdd : Option Addr) (vs : Array Value) (ccs : Array (Option Value)) (file : Str) (tf : Tok), env.code = .ref cda ∧ K.lookup cda = some ⟨ccl, cdd, .fields vs, ccs⟩ ∧ vs[2]? = some (.str file tf) ∧ ((P.main.file : Str) == file) = true
  top : (P.main.scope.names.lookup ("super" : Str)).isSome = false
  ce : ∃ (cc : Addr) (cl : Value) (cld : Option Addr) (csl : Array (Option Value)), env.cells.lookup ("__class__" : Str) = some cc ∧ K.lookup cc = some ⟨cl, cld, .cell (some (.ref D)), csl⟩
  mg : mg "super" = none
  any : PySem.W.nsIn K cStatics "thirdparty.any" = some none
  it : interactive env = false
  ka : env.kindOf sn = some .local
/-- .. and of the class of the object -/
structure SupC (K : PySem.W.Frag) (C D : Addr) : Prop where
  cls : ∃ cd, PySem.W.clsIn K D = some cd
  sub : PySem.W.mroIn K C (.ref D) = some true
  sup : PySem.W.ks_superIn K C D "__init__" = some (some (.builtin vei))
  ve : PySem.W.subIn K (.ref C) (.type "ValueError") = some true
  exc : OexC K C
section
variable {X : Cx} {pins : List (Addr × Obj)} {σ : List (Option V)} {H : Hp} {s : Shared} {self : Str} {D a C : Addr} {body : List Stmt} {p0 p1 p2 pos pos' : Pos} {e : Expr} {te : TE}
theorem ld_super {E : Value → Shared → Prop} {Q : Value → Shared → Prop} (I : Inv X pins σ H s) (S : SupF X.prog X.K X.mg X.env self D) (h : Q (.type "super") s) : wpAny (model X.prog X.w) X.A (loadName X.env "super") Q E s := by
  obtain ⟨mb, h1, h2⟩ := I.mod.blt
  exact PySem.W.ks_loadName_global I.ok.kind S.ks (Calls.loadGlobal_builtin (by rw [I.ok.glob]; exact I.mod.glob.keeps I.bk) S.mg (by rw [I.ok.blt]; exact h1.keeps I.bk) ((h2 _ (by decide)).trans (by rfl)) h)
theorem self_at (I : Inv X pins σ H s) {u : V} (h1 : X.N[0]? = some self) (h2 : σ[0]? = some (some u)) (hk : X.env.kindOf self = some .local) : ∃ m v, s.heap.Ns X.env.locals m ∧ m self = some v ∧ RelV u v := by
  obtain ⟨m, hn, hl⟩ := I.loc
  obtain ⟨v, r, k⟩ := hl 0 self u h1 h2 (.inl hk)
  rcases k with ⟨_, k⟩ | ⟨k, _⟩
  · exact ⟨m, v, hn, k, r⟩
  · rcases k with k | k <;> · rw [hk] at k; cases k
theorem exo_inst {C a : Addr} (T : OexC X.K C) (I : Inv X pins σ H s) (e : H a = some (exo a C none)) : ∃ t1 : Addr, PySem.W.InstAt s.heap a { cls := .ref C, dict := none, data := .fields #[.ref t1, .none, .none, .none, .bool false, .none] } C none := by
  obtain ⟨t1, ho⟩ := exo_at I.hok e
  exact ⟨t1, ho, rfl, rfl, trivial⟩
/-- the wrapper called -/
theorem call_mw {u : Addr} {us : List Value} {Q : Value → Shared → Prop} {E : Value → Shared → Prop} {A : Around} (T : OexC X.K C) (I : Inv X pins σ H s) (eu : H u = some (mwO u a)) (ea : H a = some (exo a C none)) (hl : us.length ≤ sizeLine) (h : ∀ s', Inv X pins σ H s' → Q .none s') :
    wpAny (model X.prog X.w) A (call (.ref u) us) Q E s := by
  obtain ⟨nm, q, N, bs, bm, sn, sub, ab, col, dd, k0, k1, k2, k3, k5, hC, hbm⟩ := T.cls
  obtain ⟨t1, ho⟩ := exo_at I.hok ea
  have hu := mwO_at I.hok eu
  have hCh := I.kIn _ _ hC
  have FB := F.excBase_ValueError
  obtain ⟨hp, g, d, t, os⟩ := s
  refine wpAny_call (codeAny_of_tree ?_)
  show wpAny _ A.in1 (callAny (.ref u) ⟨us, []⟩) _ _ _
  simp only [callAny]
  refine wpAny_bind (wpAny_load hu ?_)
  simp only [PySem.W.kxs_mw, show (Value.type "method-wrapper" == Value.type "method" || Value.type "method-wrapper" == Value.type "builtin_function_or_method" || Value.type "method-wrapper" == Value.type "method-wrapper") = true by decide, if_true]
  refine PySem.W.KFB.if_so (by decide) ?_
  refine wpAny_bind (PySem.W.check_bound_init FB.toExcCallFacts hCh ho rfl ?_)
  refine wpAny_bind (wpAny_pure (wpAny_pure ?_))
  refine ⟨plainId_quiet FB.init.plain _, codeAny_builtin FB.initEntry ?_⟩
  refine PySem.W.exc_init_tree (cls := .ref C) (t0 := t1) (dv := none) (c2 := .none) (c3 := .none) (b4 := .bool false) ho hl fun h' k hx _ => ?_
  have J := I.write (t' := t) (x := a) (e := a) (o := exo a C none) (by rw [ea]; exact True.intro) (.inl rfl) k ⟨_, hx⟩ (exo_ok hx)
  have eu2 : upd H a (exo a C none) = H := by
    funext b
    by_cases hb : b = a
    · rw [hb, upd_same, ea]
    · rw [upd_ne hb]
  rw [eu2] at J
  exact h _ J
theorem sup_stmt {es : List Expr} {pl : Sem Bool} {ta : TA} {G : Hp → Prop} {Q : Flow → Shared → Prop} (I : Inv X pins σ H s) (S : SupF X.prog X.K X.mg X.env self D) (T : SupC X.K C D) (hN : X.N[0]? = some self) (h0 : σ[0]? = some (some (.ref a))) (ea : H a = some (exo a C none)) (ha : PA X (e :: es) ta)
    (h : ∀ u, H u = none → ta σ (upd H u (mwO u a)) fun vs H2 => vs.length ≤ 1000 ∧ H2 u = some (mwO u a) ∧ H2 a = some (exo a C none) ∧ G H2) (hq : ∀ H2 s', Inv X pins σ H2 s' → G H2 → Q .next s')
    (hev : eval (.Call (.Attribute (.Call (.Name "super" p0) [] [] p1) "__init__" p2) (e :: es) [] pos) X.env = (do
      let ov ← attributeBase (.Call (.Name "super" p0) [] [] p1) "__init__" X.env (eval (.Call (.Name "super" p0) [] [] p1) X.env)
      standAt p2.atName
      let (f, first) ← holding [ov] (getMethod ov "__init__" pl)
      callWith pos f first (backTo pos (starEach (e :: es) X.env)) []) := by rfl)
    (he : starEach (e :: es) X.env = (false, eval e X.env) :: starEach es X.env := by rfl) (hpl : (backTo pos (starEach es X.env)).any (·.1) = false := by rfl) :
    _root_.PySem.wpAt (model X.prog X.w) X.A (.func body X.env) (exec (.Expr (.Call (.Attribute (.Call (.Name "super" p0) [] [] p1) "__init__" p2) (e :: es) [] pos) pos') X.env) Q X.xe s := by
  refine ks_wpAt_Expr_any ?_ S.it
  refine ks_wpAt_MethodCall ?_ hev
  obtain ⟨f, oc, od, fd, osl, ar, hfu, lf, hp, har⟩ := S.fn
  obtain ⟨cda, ccl, cdd, vs, ccs, file, tf, hco, lc, hvs, hfile⟩ := S.co
  obtain ⟨cc, cl, cld, csl, hcl, lcc⟩ := S.ce
  obtain ⟨m, v, hn, hv, rv⟩ := self_at I hN h0 S.ka
  obtain rfl : v = Value.ref a := rv
  obtain ⟨t1, inst⟩ := exo_inst T.exc I ea
  obtain ⟨cdD, hD⟩ := T.cls
  have XK := I.kIn
  obtain ⟨oD, hD1, hD2⟩ : ∃ oD, s.heap.get? D = some oD ∧ oD.data = .cls cdD := by
    unfold PySem.W.clsIn at hD
    split at hD
    · rename_i c d cd' sl ho
      cases hD
      exact ⟨_, XK _ _ ho, rfl⟩
    · cases hD
  refine ks_wpAt_super_base S.ks S.kc (by decide) hfu (XK _ _ lf) rfl hp hco (XK _ _ lc) rfl hvs hfile S.top ?_
  refine ld_super I S ⟨rfl, ?_⟩
  refine wpAny_loadName_free I.ok.kind S.kc hcl ⟨_, XK _ _ lcc, rfl⟩ ?_
  refine wpAny_loadName_local I.ok.kind (har ▸ S.ka) hn (har ▸ hv) ?_
  refine ks_wpAny_isType_cls hD1 hD2 ⟨rfl, ?_⟩
  obtain ⟨hp0, g, d, t, os⟩ := s
  refine ks_wpAny_call_super hD1 hD2 inst.at_ rfl (fun c e => by cases e) (PySem.W.looks_mroIn XK T.sub) fun h' eso k => ?_
  have I2 : Inv X pins σ H ⟨h', g, d, t, os⟩ := I.kept (t' := t) k
  have XK2 := I2.kIn
  have sup := T.sup
  unfold PySem.W.ks_superIn at sup
  cases hc : PySem.W.clsIn X.K C with
  | none =>
    rw [hc] at sup
    cases sup
  | some cd =>
    rw [hc] at sup
    obtain ⟨t2, inst2⟩ := exo_inst T.exc I2 ea
    refine PySem.W.kxs_getMethod PySem.W.kxs_ValueError eso (PySem.W.looks_opaque XK2 S.any) (l₀ := cd.mro) ?_ rfl XK2 sup (inst2.type.andThen (PySem.W.looks_subIn XK2 T.ve)) (PySem.W.ks_ne XK2 inst2 hc) (by decide) ?_
    · exact fun A Q E s k q => wpAny_bind ((PySem.W.looks_clsIn XK2 hc) A _ E s k (wpAny_pure q))
    · have hnu : H h'.objs.size = none := I2.hok.fresh (Nat.le_refl _)
      have gu : (h'.push (PySem.W.kxs_mw vei a)).get? h'.objs.size = some (PySem.W.kxs_mw vei a) := Heap.get?_push_at rfl rfl
      have I3 : Inv X pins σ (upd H h'.objs.size (mwO h'.objs.size a)) ⟨h'.push (PySem.W.kxs_mw vei a), g, d, t + 1, os⟩ :=
        I2.laid (t' := t + 1) (fun b o e => Heap.get?_push_of_some _ e) (Nat.le_refl _) (mwO_ok gu)
      show wpAny _ _ (callWith pos (.ref h'.objs.size) [] (backTo pos (starEach (e :: es) X.env)) []) _ _ _
      have run := ha.run pos pins _ σ _ _ I3 (h _ hnu)
      rw [he] at run ⊢
      refine PySem.W.kxs_callWith (i := vei) (x := a) (by show (false || (backTo pos (starEach es X.env)).any (·.1)) = false; rw [hpl]; rfl) ?_
      refine Calls.evalArgs_plain (thn run fun us s1 ⟨vs, H1, I1, r1, hz, eu, ea1, hG⟩ => ⟨mwO_at I1.hok eu, ?_⟩)
      exact call_mw T.exc I1 eu ea1 (by show us.length ≤ _; rw [← Paired.length r1, sizeLine_eq]; omega) fun s' J => hq H1 s' J hG
end
section
variable {CX : CXT} {P : Program} {w : World} {K : PySem.W.Frag} {mg : Str → Option Value} {base : Heap} {k : Nat} {F : NF} {f cc D : Addr} {kV doc pm ct oc : Value} {an od : Option Addr} {osl : Array (Option Value)} {N ps : List Str} {sp : Sp} {self : Str} {e : Expr} {es : List Expr} {p0 p1 p2 pos pos' : Pos} {rest : List Stmt} {pl : Sem Bool}
theorem fn_sup (lk : K.lookup f = some ⟨oc, od, .func (PySem.W.fnX F.name F.qual F.params F.body F.scope F.cl .none kV doc pm an (.ref F.c) ct), osl⟩) (hcd : PySem.W.codeIn K (.ref F.c) F.qual = true) (hcl : F.cl = [(("__class__" : Str), cc)])
    (hcc : ∃ cl cld csl, K.lookup cc = some ⟨cl, cld, .cell (some (.ref D)), csl⟩) (S : NScope N ps ["__class__"] F.scope) (hF : ∀ L, SupF P K mg (envF F f L) self D) (hN : N[0]? = some self)
    (hbd : F.body = .Expr (.Call (.Attribute (.Call (.Name "super" p0) [] [] p1) "__init__" p2) (e :: es) [] pos) pos' :: rest)
    (len : ∀ vs H Q E, sp vs H Q E → vs.length = ps.length)
    (hbody : ∀ (A : Around) (outer : List Env) (s : Shared) (H : Hp) (vs : List V) (Q : VK) (E : XK), Room k (A.deeper (envF F f s.heap.objs.size)) → sp vs H Q E →
      ∃ (a C : Addr) (ta : TA) (t : TS), SupC K C D ∧ (startF N vs [none])[0]? = some (some (.ref a)) ∧ H a = some (exo a C none) ∧ PA (ncx CX P w K mg base N F f A outer s H E) (e :: es) ta ∧ PSs (ncx CX P w K mg base N F f A outer s H E) rest t ∧
        ∀ u, H u = none → ta (startF N vs [none]) (upd H u (mwO u a)) fun vs' H2 => vs'.length ≤ 1000 ∧ H2 u = some (mwO u a) ∧ H2 a = some (exo a C none) ∧ t { nx := fun _ H' => Q .non H', rt := Q } (startF N vs [none]) H2)
    (hev : ∀ L, eval (.Call (.Attribute (.Call (.Name "super" p0) [] [] p1) "__init__" p2) (e :: es) [] pos) (envF F f L) = (do
      let ov ← attributeBase (.Call (.Name "super" p0) [] [] p1) "__init__" (envF F f L) (eval (.Call (.Name "super" p0) [] [] p1) (envF F f L))
      standAt p2.atName
      let (g, first) ← holding [ov] (getMethod ov "__init__" pl)
      callWith pos g first (backTo pos (starEach (e :: es) (envF F f L))) []) := by intro L; rfl)
    (he : ∀ L, starEach (e :: es) (envF F f L) = (false, eval e (envF F f L)) :: starEach es (envF F f L) := by intro L; rfl) (hpl : ∀ L, (backTo pos (starEach es (envF F f L))).any (·.1) = false := by intro L; rfl) :
    FnOk P w K mg base CX (k + 1) f (PySem.W.fnX F.name F.qual F.params F.body F.scope F.cl .none kV doc pm an (.ref F.c) ct) ps sp := by
  refine ⟨len, fun A outer s H args us vs Q E hr e0 hb r hsp => ?_⟩
  have hl := len _ _ _ _ hsp
  have KX : K.In s.heap := e0.mod.kin.keeps fun b o e => (e0.bs b o e).1
  have lim : s.heap.NoLimit := e0.mod.nolimit.keeps fun b o e => (e0.bs b o e).1
  obtain ⟨cl, cld, csl, hcc⟩ := hcc
  have C : CellsAt F.cl ["__class__"] [none] s.heap H := by
    have one : ∀ {y : Str} {c : Addr}, F.cl.lookup y = some c → y = "__class__" ∧ c = cc := fun {y c} e => by
      rw [hcl] at e
      by_cases h : y = ("__class__" : Str)
      · subst h
        have e2 : some cc = some c := e
        exact ⟨rfl, (Option.some.inj e2).symm⟩
      · have h2 : (y == ("__class__" : Str)) = false := by simpa using h
        rw [List.lookup_cons, h2] at e
        cases e
    refine ⟨rfl, fun y c e => ?_, fun x y c e1 e2 => (one e1).1.trans (one e2).1.symm, fun i y hi => ?_⟩
    · rw [(one e).2]
      exact ⟨(e0.bs _ _ (e0.mod.kin _ _ hcc)).2, _, ⟨_, KX _ _ hcc, rfl⟩⟩
    · cases i with
      | zero =>
        have e : ("__class__" : Str) = y := Option.some.inj hi
        refine ⟨cc, by rw [hcl, ← e]; rfl, fun v hv => ?_⟩
        cases hv
      | succ i => cases hi
  refine ks_codeAny_call_defAt hr.depth (KX _ _ lk) rfl lim (PySem.W.codeRec_of KX hcd) rfl hb S.nocell (fun ⟨n, v⟩ hy => S.par n (List.of_mem_zip hy).1) (fun h₁ hns kp => ?_) S.co S.gen S.kind
  show _root_.PySem.wpAt (model P w) (A.deeper (envF F f s.heap.objs.size)) (.func F.body (envF F f s.heap.objs.size)) (execs F.body (envF F f s.heap.objs.size)) _ _ _
  obtain ⟨a, Ca, ta, t, hC, h0, ea, pa, ps', hq⟩ := hbody A outer s H vs Q E (hr.deeper _) hsp
  have I : Inv (ncx CX P w K mg base N F f A outer s H E) [] (startF N vs [none]) H { s with heap := h₁, toks := s.toks + (ps.zip us).length } := inv_startN S hr.hd e0 hl r C hns kp
  have fin : ∀ {s' : Shared} {σ' : L2.St} {H' : Hp} {v : V} {u : Value}, Inv (ncx CX P w K mg base N F f A outer s H E) [] σ' H' s' → L2.RelV v u → Q v H' → CE outer P w H s Q u s' :=
    fun {s' σ' H' v u} J rv q => ⟨v, H', J.os, J.bare, J.base, J.hok, rv, q⟩
  have main : ∀ (body : List Stmt), _root_.PySem.wpAt (model P w) (A.deeper (envF F f s.heap.objs.size)) (.func body (envF F f s.heap.objs.size)) (execs (.Expr (.Call (.Attribute (.Call (.Name "super" p0) [] [] p1) "__init__" p2) (e :: es) [] pos) pos' :: rest) (envF F f s.heap.objs.size))
      (fun fl s' => CR CX outer P w H s Q E (.ok (.ret (match fl with | .ret v => v | _ => .none))) s') (ncx CX P w K mg base N F f A outer s H E).xe { s with heap := h₁, toks := s.toks + (ps.zip us).length } := by
    intro body
    refine ks_wpAt_execs_cons ?_
    refine sup_stmt (X := ncx CX P w K mg base N F f A outer s H E) (body := body) (G := fun H2 => t { nx := fun _ H' => Q .non H', rt := Q } (startF N vs [none]) H2) I (hF _) hC hN h0 ea pa hq (fun H2 s' J hG => ?_) (hev _) (he _) (hpl _)
    refine wpAt_of_wpAny ?_
    refine wpAny_mono (ps'.run [] s' (startF N vs [none]) H2 _ J hG) (fun fl s' hs => ?_) fun e s' hs => hs
    cases fl with
    | ret u =>
      obtain ⟨v, σ', H', J, rv, q⟩ := hs
      exact fin J rv q
    | next =>
      obtain ⟨σ', H', J, q⟩ := hs
      exact fin (v := V.non) (u := Value.none) J rfl q
    | brk =>
      obtain ⟨_, _, _, q⟩ := hs
      exact False.elim q
    | cont =>
      obtain ⟨_, _, _, q⟩ := hs
      exact False.elim q
  have m2 := main F.body
  rw [← hbd] at m2
  exact m2
end
end Sup
/-! Own errors with one field, whose __init__ says super().__init__(f'..'). -/
namespace Er
open PySem PySem.Spec PyProof.Rows L2 Bx TL Dx Sup NdefX
/-- __init__(self, y): the error at a gets a dict with f = y -/
def spErr (ok : V → Prop) (C : Addr) (f : Str) : Sp := fun vs H Q _ => ∃ (a : Addr) (v : V), vs = [.ref a, v] ∧ ok v ∧ H a = some (exo a C none) ∧
  ∀ (d : Addr) (H' : Hp), (∀ b o, b ≠ a → H b = some o → H' b = some o) → H d = none → d ≠ a → H' a = some (exo a C (some d)) → H' d = some (exd d [(f, v)]) → Q .non H'
/-- the class at C, named x: an own error over ValueError with one field -/
structure Err (P : Program) (w : World) (K : PySem.W.Frag) (mg : Str → Option Value) (base : Heap) (x : Str) (C : Addr) (f y : Str) (ok : V → Prop) (k : Nat) : Prop where
  init : ∃ (fI : Addr) (fd : FuncData), PySem.W.findIn K (.ref C) "__init__" = some (some (.ref fI)) ∧ PySem.W.typeIn K (.ref fI) = some (.type "function") ∧ FnOk P w K mg base CX0 k fI fd ["self", y] (spErr ok C f) ∧ Binds K fd ["self", y] []
  exc : OexC K C
  g : mg x = some (.ref C)
  te : PySem.W.exmOne K (.ref C) (.ref C) = some true
  xf : XfC K C
  no : PySem.W.findIn K (.ref C) f = some none
section
variable {X : Cx} {x : Str} {C : Addr} {f y : Str} {ok : V → Prop} {k : Nat} {e : Expr} {te : TE} {p pos pos' : Pos} {W : WX}
theorem ps_raiseE (c : Err X.prog X.w X.K X.mg X.base x C f y ok k) (hc : X.calm = true) (tk : Takes X W) (hr : Room (k + 1) X.A) (he : PE X e te) (hg : Gl X x := by rfl) (hdb : (x == ("__debug__" : Str)) = false := by decide)
    (hst : starEach [e] X.env = (false, eval e X.env) :: starEach [] X.env := by rfl) (hpl : (backTo pos (starEach [] X.env)).any (·.1) = false := by rfl) :
    PS X (.Raise (some (.Call (.Name x p) [e] [] pos)) none pos') (fun _ σ H => te σ H fun v H1 => ok v ∧ ∀ d H3, Same H1 H3 → H1 d = none → H3 d = some (.xd [(f, v)]) → W (.ref C) (some d) σ H3) := by
  obtain ⟨fI, fd, iC, tI, F1, hb⟩ := c.init
  have he2 : PE X e (fun σ H Q => ∃ R : VK, te σ H R ∧ ∀ v H1, R v H1 → Q v H1) := ⟨fun pins s σ H Q I ⟨R, h, hR⟩ => thn (he.run pins s σ H R I h) fun v s1 ⟨x, H1, I1, r, q⟩ => ⟨x, H1, I1, r, hR _ _ q⟩⟩
  have z := ps_raise (pos := pos') hc tk (pmk_oex (pos := pos) (p := p) (dvs := []) c.exc iC tI F1 hr hb .nil (pass0) hg c.g (pa_cons he2 pa_nil hst) hdb hst hpl)
  refine ⟨fun pins s σ H D I h => z.run pins s σ H D I ?_⟩
  refine ⟨_, h, fun v H1 hq => ?_⟩
  obtain ⟨hok, hw⟩ := hq
  refine ⟨by show 1 ≤ 1000; decide, fun a na => ⟨a, v, rfl, hok, upd_same, fun d H' keep nd da ea ed => ?_⟩⟩
  have nd1 : H1 d = none := by
    rw [upd_ne da] at nd
    exact nd
  refine ⟨rfl, d, _, ea, ed, nd1, hw d _ (fun b o e => ?_) nd1 upd_same⟩
  have ba : b ≠ a := ne_of_none e na
  rw [upd_ne (ne_of_none e nd1), del_ne ba]
  exact keep b o ba (by rw [upd_ne ba]; exact e)
end
/-! ### isinstance of an error with a dict -/
def rIsD (K : PySem.W.Frag) (a : Addr) (cls : Value) (d : Option Addr) : List V → Hp → VK → Prop := fun xs H Q => ∃ (D dd : Addr) (c : V) (cv : Value) (b : Bool) (fs : List (Str × V)), xs = [.ref a, c] ∧ cls = .ref D ∧ d = some dd ∧ (PySem.W.clsIn K D).isSome = true ∧ ExcC K D ∧
  H dd = some (.xd fs) ∧ (∀ u, RelV c u → u = cv) ∧ PySem.W.kitOne K (.ref D) cv = some b ∧ Q (.bl b) H
theorem call_isD {X : Cx} {a : Addr} {cls : Value} {d : Option Addr} {oe : Obj} {pn : List (Addr × Obj)} (hz : Zc cls d oe) (hf : ∃ vs, oe.data = .fields vs) : CallR (X.suite a ((a, oe) :: pn)) (.builtin "isinstance") (rIsD X.K a cls d) := by
  intro pins s σ H xs us Q I r h
  obtain ⟨D, dd, c, cv, b, fs, rfl, rfl, rfl, hcl, C, hdd, hcv, e, q⟩ := h
  cases r with
  | cons rx rr =>
    cases rr with
    | cons rt rr =>
      cases rr
      cases rx
      have ec := hcv _ rt
      subst ec
      obtain ⟨hget, _⟩ := I.pin (a, oe) (List.mem_append.mpr (.inl List.mem_cons_self))
      obtain ⟨vs, hv⟩ := hf
      obtain ⟨oD, hD⟩ : ∃ o, s.heap.get? dd = some o := by
        obtain ⟨mA, hn, _⟩ := I.hok dd _ hdd
        obtain ⟨o, _, _, e, _⟩ := hn
        exact ⟨o, e⟩
      have J : PySem.W.InstAt s.heap a oe D (some oD) := by
        obtain ⟨oc, od, oda, osl⟩ := oe
        obtain ⟨h1, h2⟩ := hz
        dsimp only at h1 h2 hv
        subst h1 h2 hv
        exact ⟨hget, rfl, rfl, hD⟩
      exact PySem.W.kia_one (PySem.W.kitx_exc hcl C.hg C.hk C.hs C.ha C.hn C.ht C.hm) I.kIn J e (fun z => nomatch z) fun tk => ⟨.bl b, H, I.kept (t' := tk) fun _ _ z => z, rfl, q⟩
/-! ### calls of defs that may raise -/
section
variable {X : Cx} {CX : CXT} {k n : Nat} {f : Addr} {fd : FuncData} {ps ks : List Str} {sp : Sp} {E : L2.St → XK} {x : Str} {p pos : Pos} {e : Expr} {es : List Expr} {kws : List Keyword} {t tk : TA} {g : List Value → List Value → List Value} {gV : List V → List V → List V}
theorem run_fnNS {pins : List (Addr × Obj)} {σ : L2.St} {H : Hp} {s : Shared} {Q : VK} {us ws : List Value} {vs zs : List V} (F : FnOk X.prog X.w X.K X.mg X.base CX k f fd ps sp) (hr : Room k X.A) (hb : KBn X.K fd ps n ks g gV) (hx : PassesAt CX X σ (E σ))
    (I : Inv X pins σ H s) (r : Vals vs us) (rz : Vals zs ws) (l1 : vs.length = n) (l2 : zs.length = ks.length) (h : sp (gV vs zs) H Q (E σ)) : wpAny (model X.prog X.w) X.A (call (.ref f) us (ks.zip ws)) (EP X pins σ Q) X.xe s := by
  refine wpAny_call (codeAny_mono (F.run X.A X.stack s H ⟨us, ks.zip ws⟩ (g us ws) (gV vs zs) Q (E σ) hr I.env0 (hb.to s us ws I.kIn (by rw [← r.length]; exact l1) (by rw [← rz.length]; exact l2)) (hb.rel r rz) h) fun r s' hq => ?_)
  cases r with
  | error e => exact hx pins H s e s' I hq
  | ok fl =>
    cases fl with
    | ret u => exact I.after hq
    | next => exact False.elim hq
    | brk => exact False.elim hq
    | cont => exact False.elim hq
def tCallNS (n m : Nat) (sp : Sp) (gV : List V → List V → List V) (E : L2.St → XK) (t tk : TA) : TE := fun σ H Q => t σ H fun vs H1 => tk σ H1 fun zs H2 => vs.length = n ∧ zs.length = m ∧ sp (gV vs zs) H2 Q (E σ)
theorem pe_callNS (F : FnOk X.prog X.w X.K X.mg X.base CX k f fd ps sp) (hr : Room k X.A) (hg : Gl X x) (hm : X.mg x = some (.ref f)) (hk : PySem.W.keepIn X.K (.ref f) = true) (hb : KBn X.K fd ps n ks g gV) (hx : ∀ σ, PassesAt CX X σ (E σ))
    (ha : PA X (e :: es) t) (hkw : PK X kws tk) (hall : (backToKw pos (keywordEach kws X.env)).all (·.1.isSome) = true := by rfl) (hks : (backToKw pos (keywordEach kws X.env)).filterMap (·.1) = ks := by rfl)
    (hdb : (x == ("__debug__" : Str)) = false := by decide) (he : starEach (e :: es) X.env = (false, eval e X.env) :: starEach es X.env := by rfl)
    (hpl : ((backTo pos (starEach (e :: es) X.env)).any (·.1) || (backToKw pos (keywordEach kws X.env)).any (·.1.isNone)) = false := by rfl) :
    PE X (.Call (.Name x p) (e :: es) kws pos) (tCallNS n ks.length sp gV E t tk) := by
  refine ⟨fun pins s σ H Q I h => ?_⟩
  refine wpAny_Call_Name_kw (ld_glob I hg hm ?_ hdb)
  refine PySem.W.callWith_KW (h₀ := X.base) I.ok.mod.kin hk hall (thn (ha.run pos pins s σ H _ I h) fun us s1 ⟨vs, H1, I1, r, q⟩ => ?_) hpl he
  refine thn (hkw.run pos pins s1 σ H1 _ I1 q) fun ws s2 ⟨zs, H2, I2, rz, l1, l2, q2⟩ => ⟨I2.kIn, ?_⟩
  rw [hks]
  exact run_fnNS F hr hb (hx σ) I2 r rz l1 l2 q2
/-- the module's name x holds a def of one parameter and a keyword-only one with a default; it may raise -/
structure CalX (P : Program) (w : World) (K : PySem.W.Frag) (mg : Str → Option Value) (base : Heap) (x y : Str) (k : Nat) (ps : List Str) (dv : V) (sp : Sp) : Prop where
  ex : ∃ (f : Addr) (fd : FuncData), FnOk P w K mg base (L2.CX P w) k f fd ps sp ∧ mg x = some (.ref f) ∧ PySem.W.keepIn K (.ref f) = true ∧ (∃ ds, Vals [dv] ds ∧ Binds K fd ps ds) ∧ KBn K fd ps 1 [y] (fun us ws => us ++ ws) (fun vs zs => vs ++ zs)
variable {y : Str} {dv : V} {W : WX} {tk1 : TA}
def tCalX (sp : Sp) (dv : V) (W : WX) (t : TA) : TE := fun σ H Q => t σ H fun vs H1 => sp (vs ++ [dv]) H1 Q (fun cls d H' => W cls d σ H')
def tCalXK (sp : Sp) (W : WX) (t tk : TA) : TE := fun σ H Q => t σ H fun vs H1 => tk σ H1 fun zs H2 => vs.length = 1 ∧ zs.length = 1 ∧ sp (vs ++ zs) H2 Q (fun cls d H' => W cls d σ H')
theorem pe_calX (c : CalX X.prog X.w X.K X.mg X.base x y k ps dv sp) (tkW : Takes X W) (hr : Room k X.A) (ha : PA X (e :: es) t) (hg : Gl X x := by rfl) (hdb : (x == ("__debug__" : Str)) = false := by decide)
    (he : starEach (e :: es) X.env = (false, eval e X.env) :: starEach es X.env := by rfl) (hpl : (backTo pos (starEach es X.env)).any (·.1) = false := by rfl) : PE X (.Call (.Name x p) (e :: es) [] pos) (tCalX sp dv W t) := by
  obtain ⟨f, fd, ok, hm, kp, ⟨ds, hv, hb⟩, _⟩ := c.ex
  have z := pe_callSD (E := fun σ cls d H' => W cls d σ H') ok hr hg hm kp hb hv (fun σ => passAt tkW σ) ha hdb he hpl (p := p)
  exact ⟨fun pins s σ H Q I h => z.run pins s σ H Q I h⟩
theorem pe_calXK (c : CalX X.prog X.w X.K X.mg X.base x y k ps dv sp) (tkW : Takes X W) (hr : Room k X.A) (ha : PA X (e :: es) t) (hkw : PK X kws tk1) (hg : Gl X x := by rfl) (hall : (backToKw pos (keywordEach kws X.env)).all (·.1.isSome) = true := by rfl) (hks : (backToKw pos (keywordEach kws X.env)).filterMap (·.1) = [y] := by rfl)
    (hdb : (x == ("__debug__" : Str)) = false := by decide) (he : starEach (e :: es) X.env = (false, eval e X.env) :: starEach es X.env := by rfl)
    (hpl : ((backTo pos (starEach (e :: es) X.env)).any (·.1) || (backToKw pos (keywordEach kws X.env)).any (·.1.isNone)) = false := by rfl) : PE X (.Call (.Name x p) (e :: es) kws pos) (tCalXK sp W t tk1) := by
  obtain ⟨f, fd, ok, hm, kp, _, hb⟩ := c.ex
  have z := pe_callNS (E := fun σ cls d H' => W cls d σ H') ok hr hg hm kp hb (fun σ => passAt tkW σ) ha hkw hall hks hdb he hpl (p := p)
  exact ⟨fun pins s σ H Q I h => z.run pins s σ H Q I h⟩
end
end Er
/-! zip of two tuples, walked; great products and quotients; xs[::-1]. -/
namespace Zx
open PySem PySem.Spec PyProof.Rows L2 Bx TL Dx
theorem walk_zipT {K : PySem.W.Frag} {a b : Addr} {xs ys : List V} {n : Nat} (hn : n = min xs.length ys.length) : Walk (RZ.ItzT K a b) n (fun H => SqT K H a xs ∧ SqT K H b ys) (YPair (fun i => xs[i]?) (fun i => ys[i]?)) := by
  subst hn
  refine ⟨fun i _ hi q => ?_, fun _ q => ⟨xs, ys, q.1, q.2, by omega⟩, fun i H v H' _ q y => ?_⟩
  · have h1 : i < xs.length := by omega
    have h2 : i < ys.length := by omega
    exact ⟨xs, ys, xs[i], ys[i], q.1, q.2, by simp [h1], by simp [h2]⟩
  · obtain ⟨T, x, z, h1, h2, h3, h4, h5⟩ := y
    exact ⟨T, x, z, h1, h2, h3, h4 xs q.1, h5 ys q.2⟩
end Zx
namespace Zx
open PySem PySem.Spec PyProof.Rows L2
theorem ne_t {p : Prop} [Decidable p] (h : (!decide p) = true) : ¬ p := by simpa using h
theorem ne_f {p : Prop} [Decidable p] (h : ¬ (!decide p) = true) : p := by simpa using h
theorem int_t {x y : Int} (h : decide (V.int x = V.int y) = true) : x = y := V.int.inj (of_decide_eq_true h)
theorem int_f {x y : Int} (h : ¬ decide (V.int x = V.int y) = true) : x ≠ y := fun e => h (decide_eq_true (congrArg V.int e))
theorem int_nt {x y : Int} (h : (!decide (V.int x = V.int y)) = true) : x ≠ y := fun e => ne_t h (congrArg V.int e)
theorem int_nf {x y : Int} (h : ¬ (!decide (V.int x = V.int y)) = true) : x = y := V.int.inj (ne_f h)
end Zx
namespace Zx
open PySem PySem.Spec PyProof.Rows L2 Bx
section
variable {K : PySem.W.Frag}
theorem ty_tup {H : Hp} {a : Addr} {xs : List V} (h : SqT K H a xs) : TyX K H (.ref a) (.type "tuple") := by
  rcases h with (h | ⟨o, h⟩) | h
  · exact .base (.tup h)
  · exact .fTuple h
  · obtain ⟨o, its, n, h1, h2, _⟩ := h
    exact .kTuple h1 h2
def spRight : Sp := fun vs H Q _ => ∃ a : Addr, vs = [.ref a] ∧ Src H a ∧ ∀ H', SameBut a H H' → Q (.bl true) H'
end
end Zx
namespace Zx
open PySem PySem.Spec PyProof.Rows L2 Bx
theorem cont_of {α : Type} {R X : α → Prop} {G : Prop} (first : (∀ a, R a → X a) → G) (rest : ∀ a, R a → X a) : G := first rest
theorem cont_of2 {α β : Type} {R X : α → β → Prop} {G : Prop} (first : (∀ a b, R a b → X a b) → G) (rest : ∀ a b, R a b → X a b) : G := first rest
theorem but_new {a : Addr} {H H3 : Hp} {p : Addr} {o : HO} (h : H p = none) (s : SameBut a (upd H p o) H3) : SameBut a H H3 := fun b x n e => s b x n (by rw [upd_ne (ne_of_none e h)]; exact e)
theorem but_at {a : Addr} {H H2 : Hp} {p : Addr} {o : HO} (h : H p = none) (s : SameBut a H H2) : SameBut a H (upd H2 p o) := fun b x n e => by
  rw [upd_ne (ne_of_none e h)]
  exact s b x n e
theorem src_same {a : Addr} {H1 H2 : Hp} (s : Src H1 a) (t : Same H1 H2) : Src H2 a := by
  obtain ⟨n, c, h⟩ := s
  exact ⟨n, c, t _ _ h⟩
theorem src_ne {a o : Addr} {H : Hp} (s : Src H a) (h : H o = none) : a ≠ o := by
  obtain ⟨n, c, z⟩ := s
  exact ne_of_none z h
theorem but_free {a o : Addr} {H H1 : Hp} (s : SameBut a H H1) (n : o ≠ a) (h : H1 o = none) : H o = none := by
  cases e : H o with
  | none => rfl
  | some x =>
    rw [s o x n e] at h
    cases h
theorem src_upd {a o : Addr} {H : Hp} {u : HO} (s : Src H a) (n : a ≠ o) : Src (upd H o u) a := by
  obtain ⟨x, c, h⟩ := s
  exact ⟨x, c, by rw [upd_ne n]; exact h⟩

end Zx
namespace Zx
open PySem PySem.Spec PyProof.Rows L2 Bx
theorem set_same {σ : L2.St} {i : Nat} {v : V} (h : σ[i]? = some (some v)) : σ.set i (some v) = σ := by
  obtain ⟨hi, e⟩ := List.getElem?_eq_some_iff.mp h
  rw [← e]
  exact List.set_getElem_self hi
/-- if c: name = e -/
theorem if_asg {c : Prop} [Decidable c] {te : TE} {i : Nat} {D : Ends} {σ : L2.St} {H : Hp} {old : V} (R : V → Hp → Prop) (hi : σ[i]? = some (some old))
    (h1 : c → ∀ Z : V → Hp → Prop, (∀ v H', R v H' → Z v H') → te σ H Z) (h2 : ¬ c → R old H) (rest : ∀ v H', R v H' → D.nx (σ.set i (some v)) H') : if c then tAsg te (gName i) D σ H else tNext D σ H := by
  split
  · rename_i h
    exact h1 h (fun v H' => D.nx (σ.set i (some v)) H') rest
  · rename_i h
    have := rest old H (h2 h)
    rw [set_same hi] at this
    exact this
/-- if c: name = e else: name = f -/
theorem if_asg2 {c : Prop} [Decidable c] {te tf : TE} {i : Nat} {D : Ends} {σ : L2.St} {H : Hp} (R : V → Hp → Prop)
    (h1 : c → ∀ Z : V → Hp → Prop, (∀ v H', R v H' → Z v H') → te σ H Z) (h2 : ¬ c → ∀ Z : V → Hp → Prop, (∀ v H', R v H' → Z v H') → tf σ H Z) (rest : ∀ v H', R v H' → D.nx (σ.set i (some v)) H') : if c then tAsg te (gName i) D σ H else tAsg tf (gName i) D σ H := by
  split
  · rename_i h
    exact h1 h (fun v H' => D.nx (σ.set i (some v)) H') rest
  · rename_i h
    exact h2 h (fun v H' => D.nx (σ.set i (some v)) H') rest
end Zx
/-! Own classes: methods that operators and built-ins call. -/
namespace Ow
open PySem PySem.Spec PyProof.Rows L2 Bx TL Dx Zx
/-- the class at C (or one above it) has the method m, a def that keeps sp -/
structure OwM (P : Program) (w : World) (K : PySem.W.Frag) (mg : Str → Option Value) (base : Heap) (CX : CXT) (C : Addr) (m : Str) (k : Nat) (ps : List Str) (sp : Sp) : Prop where
  ex : ∃ (f : Addr) (fd : FuncData), FnOk P w K mg base CX k f fd ps sp ∧ PySem.W.findIn K (.ref C) m = some (some (.ref f)) ∧ PySem.W.isFn K (.ref f) = true ∧ PySem.W.keepIn K (.ref f) = true ∧ Binds K fd ps []
section
variable {X : Cx} {pins : List (Addr × Obj)} {σ : L2.St} {H : Hp} {s : Shared} {C a dx : Addr} {fs : List (Str × V)}
/-- an instance as the library's operators see it -/
theorem inst_of (I : Inv X pins σ H s) (e : H a = some (.ins C dx fs)) : ∃ od, PySem.W.InstAt s.heap a (PySem.W.instObj C dx) C (some od) := by
  obtain ⟨mA, J, _⟩ := ins_get I.hok e
  obtain ⟨od, J2, _⟩ := J.look
  exact ⟨od, J2⟩
/-- a def is called, somewhere within -/
theorem call_at {CX : CXT} {k : Nat} {f : Addr} {fd : FuncData} {ps : List Str} {sp : Sp} {A1 : Around} {us : List Value} {vs : List V} {Q : VK} {E : XK} {E1 : Value → Shared → Prop} (sb : Sub X k A1) (ok : FnOk X.prog X.w X.K X.mg X.base CX k f fd ps sp) (b : Binds X.K fd ps [])
    (I : Inv X pins σ H s) (r : Vals vs us) (hsp : sp vs H Q E) (hx : ∀ e s', CX X.stack H s E e s' → E1 e s') : wpAny (model X.prog X.w) A1 (call (.ref f) us) (EP X pins σ Q) E1 s := by
  have z0 := I.env0
  have e0 : Env0 X.prog X.w X.K X.mg X.base A1 X.stack s H := ⟨by rw [sb.fr]; exact z0.frames, z0.mod, z0.bs, z0.bsz, z0.funs, z0.frf, z0.hok, z0.bare⟩
  have n1 := ok.len _ _ _ _ hsp
  have n2 : us.length = ps.length := by rw [← r.length]; exact n1
  have bb := b s us I.kIn (by rw [List.append_nil]; exact n2)
  rw [List.append_nil] at bb
  refine wpAny_call (codeAny_mono (ok.run A1 X.stack s H ⟨us, []⟩ us vs Q E sb.room e0 bb r hsp) fun res s' back => ?_)
  match res, back with
  | .error e, back => exact hx e s' back
  | .ok (.ret u), back => exact I.after back
  | .ok .next, back => exact back.elim
  | .ok .brk, back => exact back.elim
  | .ok .cont, back => exact back.elim
theorem sub_self {n : Nat} (hr : Room n X.A) : Sub X n X.A := ⟨hr, rfl⟩
/-- len(o) -/
def rLenO (C : Addr) (sp : Sp) : List V → Hp → VK → Prop := fun xs H Q => ∃ a dx fs, xs = [.ref a] ∧ H a = some (.ins C dx fs) ∧ sp [.ref a] H (fun v H' => ∃ n : Nat, v = .int (n : Int) ∧ n < 2 ^ 62 ∧ Q (.int (n : Int)) H') E0
theorem call_lenO {k : Nat} {ps : List Str} {sp : Sp} (c : OwM X.prog X.w X.K X.mg X.base CX0 C "__len__" k ps sp) (hr : Room (k + 1) X.A) : CallR X (.builtin "len") (rLenO C sp) := by
  intro pins s σ H xs us Q I r h
  obtain ⟨a, dx, fs, rfl, ha, hsp⟩ := h
  obtain ⟨f, fd, ok, hs, hf, _, hb⟩ := c.ex
  obtain ⟨od, J⟩ := inst_of I ha
  obtain ⟨m, hF⟩ := I.fr
  have r0 := r
  cases r with
  | cons r1 r2 =>
    cases r2
    cases r1
    refine PySem.W.len_K hF I.ok.mod.kin J hs hf ?_
    refine wpAny_mono (call_at ((sub_self hr).in1) ok hb I r0 hsp (fun e s' z => z.elim)) (fun u s' hu => ?_) (fun _ _ z => z)
    obtain ⟨v, H', I', rv, n, rfl, hn, hq⟩ := hu
    obtain ⟨t, rfl⟩ := rv
    exact ⟨⟨by omega, by omega⟩, .int n, H', I'.tok _, ⟨_, rfl⟩, hq⟩
/-- x in o, x not in o -/
def rInO (C : Addr) (sp : Sp) (neg : Bool) : V → V → Hp → VK → Prop := fun x y H Q => ∃ a dx fs, y = .ref a ∧ H a = some (.ins C dx fs) ∧ sp [.ref a, x] H (fun v H' => ∃ b : Bool, v = .bl b ∧ Q (.bl (b != neg)) H') E0
theorem truth_bl {M : Model} {A : Around} {E : Value → Shared → Prop} {s : Shared} {b : Bool} {Q : Bool → Shared → Prop} (h : Q b s) : wpAny M A (truthy (.bool b)) Q E s := by
  unfold truthy
  exact wpAny_pure h
theorem op_inO {k : Nat} {ps : List Str} {sp : Sp} (c : OwM X.prog X.w X.K X.mg X.base CX0 C "__contains__" k ps sp) (hr : Room k X.A) : OpR X (compareOp .In) (rInO C sp false) := by
  intro pins s σ H x y u v Q I rx ry h
  obtain ⟨a, dx, fs, rfl, ha, hsp⟩ := h
  obtain ⟨f, fd, ok, hs, hf, _, hb⟩ := c.ex
  obtain ⟨od, J⟩ := inst_of I ha
  obtain ⟨m, hF⟩ := I.fr
  cases ry
  refine PySem.W.in_K hF I.ok.mod.kin J hs hf ?_
  refine wpAny_mono (call_at (sub_self hr) ok hb I (vs := [.ref a, x]) (.cons rfl (.cons rx .nil)) hsp (fun e s' z => z.elim)) (fun u s' hu => ?_) (fun _ _ z => z)
  obtain ⟨v, H', I', rv, b, rfl, hq⟩ := hu
  cases rv
  refine truth_bl ⟨.bl b, H', I', rfl, ?_⟩
  rw [show (b != false) = b by cases b <;> rfl] at hq
  exact hq
theorem op_notInO {k : Nat} {ps : List Str} {sp : Sp} (c : OwM X.prog X.w X.K X.mg X.base CX0 C "__contains__" k ps sp) (hr : Room k X.A) : OpR X (compareOp .NotIn) (rInO C sp true) := by
  intro pins s σ H x y u v Q I rx ry h
  obtain ⟨a, dx, fs, rfl, ha, hsp⟩ := h
  obtain ⟨f, fd, ok, hs, hf, _, hb⟩ := c.ex
  obtain ⟨od, J⟩ := inst_of I ha
  obtain ⟨m, hF⟩ := I.fr
  cases ry
  refine PySem.W.notIn_K hF I.ok.mod.kin J hs hf ?_
  refine wpAny_mono (call_at (sub_self hr) ok hb I (vs := [.ref a, x]) (.cons rfl (.cons rx .nil)) hsp (fun e s' z => z.elim)) (fun u s' hu => ?_) (fun _ _ z => z)
  obtain ⟨v, H', I', rv, b, rfl, hq⟩ := hu
  cases rv
  refine truth_bl ⟨.bl (!b), H', I', rfl, ?_⟩
  rw [show (b != true) = !b by cases b <;> rfl] at hq
  exact hq
end
end Ow
/-! Own classes: o[i], o op x, loops over o. -/
namespace Ow
open PySem PySem.Spec PyProof.Rows L2 Bx TL Dx Zx ItX
/-! ### o[i] -/
section
variable {X : Cx} {C : Addr} {CXc : CXT} {k : Nat} {ps : List Str} {sp : Sp} {W : WX} {a b : Expr} {ta tb : TE} {pos : Pos}
def tSubO (C : Addr) (sp : Sp) (W : WX) (ta tb : TE) : TE := fun σ H Q => ta σ H fun x H1 => tb σ H1 fun y H2 => ∃ p dx fs, x = .ref p ∧ H2 p = some (.ins C dx fs) ∧ sp [.ref p, y] H2 Q (fun cls d H' => W cls d σ H')
theorem pe_subO (c : OwM X.prog X.w X.K X.mg X.base CXc C "__getitem__" k ps sp) (fi : ∀ f, PySem.W.findIn X.K (.ref C) "__getitem__" = some (some (.ref f)) → PySem.W.fnIn X.K f = true) (hr : Room (k + 1) X.A) (hx : ∀ σ, PassesAt CXc X σ (fun cls d H' => W cls d σ H')) (ha : PE X a ta) (hb : PE X b tb)
    (hs : ∀ v u, subscripted b true v u = runValue (.builtin "lifetime.subscript" ⟨[v, u], []⟩) := by intro _ _; rfl) : PE X (.Subscript a b pos) (tSubO C sp W ta tb) := by
  refine ⟨fun pins s σ H Q I h => ?_⟩
  refine Subscript_ (binT ha hb I (R := fun x y H2 => ∃ p dx fs, x = .ref p ∧ H2 p = some (.ins C dx fs) ∧ sp [.ref p, y] H2 Q (fun cls d H' => W cls d σ H')) h fun v u s2 x y H2 I2 rx ry q => ?_)
  obtain ⟨p, dx, fs, rfl, hp, hsp⟩ := q
  obtain ⟨f, fd, ok, hfi, hf, _, hbd⟩ := c.ex
  obtain ⟨od, J⟩ := inst_of I2 hp
  obtain ⟨m, hF⟩ := I2.fr
  cases rx
  refine PySem.W.sub_K hF I2.ok.mod.kin J hfi (fi f hfi) hf ?_ (hs _ _)
  exact call_at ((sub_self hr).in1) ok hbd I2 (vs := [.ref p, y]) (.cons rfl (.cons ry .nil)) hsp (fun e s' z => hx σ pins H2 s2 e s' I2 z)
end
/-! ### o op x, x of a built-in type -/
/-- what the written part says of an operator of C with a second operand of the built-in type T -/
structure BinF (K : PySem.W.Frag) (C : Addr) (op : Operator) (T : String) : Prop where
  first : PySem.W.selfFirst K C = true
  refl : ∃ rc, PySem.W.findIn K (.ref C) (dunderR op.info.2) = some rc ∧ (rc = none ∨ ∃ g : Addr, rc = some (.ref g))
  t1 : ∃ fo, PySem.W.findIn K (.type T) (PySem.dunder op.info.2) = some fo
  t2 : ∃ ro, PySem.W.findIn K (.type T) (dunderR op.info.2) = some ro
  sub : PySem.W.subIn K (.type T) (.ref C) = some false
/-- the type of a value, looked at -/
def LkT (M : Model) (h : Heap) (v : Value) (T : String) : Prop := PySem.W.Looks M h (typeOf v) (.type T)
theorem bin_looks {prog : Program} {w : World} {A : Around} {E : Value → Shared → Prop} {s : Shared} {K : PySem.W.Frag} {x C f : Addr} {ox : Obj} {od : Option Obj} {T : String} {op : Operator} {b : Value} {Q : Value → Shared → Prop}
    (X : K.In s.heap) (I : PySem.W.InstAt s.heap x ox C od) (B : BinF K C op T) (hb : LkT (model prog w) s.heap b T) (hs : PySem.W.findIn K (.ref C) (PySem.dunder op.info.2) = some (some (.ref f))) (hf : PySem.W.isFn K (.ref f) = true)
    (h : wpAny (model prog w) A (call (.ref f) [.ref x, b]) (PySem.W.CmpBack Q) E s) : wpAny (model prog w) A (binaryOp op (.ref x) b) Q E s := by
  obtain ⟨hc, ⟨rc, hrc, hrp⟩, ⟨fo, h1⟩, ⟨ro, h2⟩, hsub⟩ := B
  obtain ⟨cd, rest, hcd, hm⟩ := PySem.W.ksp_first hc
  cases hi : op.info with
  | mk sym nm =>
    rw [hi] at hs hrc h1 h2
    dsimp only at hs hrc h1 h2
    have called := PySem.W.ksp_try X I hs hf h
    have d1 : PySem.W.Looks (model prog w) s.heap (typeOf (.ref x)) (.ref C) := I.type
    have d3 : PySem.W.Looks (model prog w) s.heap (fillsNumberSlot (.ref C) nm) true := PySem.W.fills_K X hcd hm hs
    have d4 := PySem.W.ksp_fillsT (M := model prog w) X h1 h2
    have d5 : PySem.W.Looks (model prog w) s.heap (isSubtype (.type T) (.ref C)) false := PySem.W.looks_subIn X hsub
    have d6 : PySem.W.Looks (model prog w) s.heap (numberSlotInPython (.ref C) nm) true := PySem.W.ksp_inPy X hs hrc hrp
    have d7 : PySem.W.Looks (model prog w) s.heap (numberSlotInPython (.type T) nm) false := PySem.W.Looks.of_pure rfl
    have d8 : PySem.W.Looks (model prog w) s.heap (typeLookup (.type T) (dunderR nm)) ro := PySem.W.looks_findIn X h2
    unfold LkT at hb
    clear X I hs hf h
    obtain ⟨hp, g, dd, tt, os⟩ := s
    generalize ((fo.isSome && !isSeqSlot fo) || (ro.isSome && !isSeqSlot ro)) = right at d4
    have other : (Value.ref C == Value.type T) = false := by
      cases z : (Value.ref C == Value.type T) with
      | false => rfl
      | true => cases beq_iff_eq.mp z
    simp only [binaryOp, hi]
    refine wpAny_holding (wpAny_bind ?_)
    unfold binaryOp1
    refine wpAny_bind (d1.at (wpAny_bind ?_))
    refine hb.at (wpAny_bind (d3.at ?_))
    simp only [other, Bool.false_eq_true, if_false]
    cases right
    · ksp_lk
      refine wpAny_mono called (fun r s' z => ?_) fun _ _ e => e
      obtain ⟨v, rfl, z⟩ := z
      ksp_lk
      exact z
    · ksp_lk
      refine wpAny_mono called (fun r s' z => ?_) fun _ _ e => e
      obtain ⟨v, rfl, z⟩ := z
      ksp_lk
      exact z
end Ow
namespace Ow
open PySem PySem.Spec PyProof.Rows L2 Bx TL Dx Zx ItX
section
variable {X : Cx} {pins : List (Addr × Obj)} {σ : L2.St} {H : Hp} {s : Shared}
/-- the built-in types of second operands -/
inductive TyO (K : PySem.W.Frag) (H : Hp) : V → String → Prop
  | int (i : Int) : TyO K H (.int i) "int"
  | str (z : Str) : TyO K H (.str z) "str"
  | tup {p : Addr} {xs : List V} (h : SqT K H p xs) : TyO K H (.ref p) "tuple"
theorem lk_of {y : V} {v : Value} {T : String} (I : Inv X pins σ H s) (r : RelV y v) (t : TyO X.K H y T) : LkT (model X.prog X.w) s.heap v T := by
  cases t with
  | int i =>
    obtain ⟨u, rfl⟩ := r
    exact PySem.W.Looks.of_pure rfl
  | str z =>
    obtain ⟨u, rfl⟩ := r
    exact PySem.W.Looks.of_pure rfl
  | tup h =>
    cases r
    obtain ⟨its, rv, ht, _⟩ := I.tuple h
    obtain ⟨o, ho, hc, _⟩ := ht
    unfold LkT
    rw [← hc]
    exact (PySem.W.Looks.ld ho).andThen .now
theorem back_ep {Q : VK} {u : Value} {s' : Shared} (h : EP X pins σ Q u s') : PySem.W.CmpBack (EP X pins σ Q) u s' := by
  obtain ⟨v, H', I', r, q⟩ := h
  have h2 : EP X pins σ Q u s' := ⟨v, H', I', r, q⟩
  cases v with
  | non => cases r; exact h2
  | bl b => cases r; exact h2
  | int i => obtain ⟨t, rfl⟩ := r; exact h2
  | str z => obtain ⟨t, rfl⟩ := r; exact h2
  | byt b => obtain ⟨t, rfl⟩ := r; exact h2
  | flt b => obtain ⟨t, rfl⟩ := r; exact h2
  | ref a => cases r; exact h2
  | ty n => cases r; exact h2
end
section
variable {X : Cx} {C : Addr} {CXc : CXT} {k : Nat} {ps : List Str} {sp : Sp} {W : WX} {a b : Expr} {ta tb : TE} {pos : Pos} {op : Operator} {T m : String}
def tBinO (K : PySem.W.Frag) (C : Addr) (T : String) (sp : Sp) (W : WX) (ta tb : TE) : TE := fun σ H Q => ta σ H fun x H1 => tb σ H1 fun y H2 => ∃ p dx fs, x = .ref p ∧ H2 p = some (.ins C dx fs) ∧ TyO K H2 y T ∧ sp [.ref p, y] H2 Q (fun cls d H' => W cls d σ H')
theorem pe_binO (c : OwM X.prog X.w X.K X.mg X.base CXc C (PySem.dunder op.info.2) k ps sp) (B : BinF X.K C op T) (hr : Room k X.A) (hx : ∀ σ, PassesAt CXc X σ (fun cls d H' => W cls d σ H')) (ha : PE X a ta) (hb : PE X b tb) : PE X (.BinOp a op b pos) (tBinO X.K C T sp W ta tb) := by
  refine ⟨fun pins s σ H Q I h => ?_⟩
  refine wpAny_BinOp (binT ha hb I (R := fun x y H2 => ∃ p dx fs, x = .ref p ∧ H2 p = some (.ins C dx fs) ∧ TyO X.K H2 y T ∧ sp [.ref p, y] H2 Q (fun cls d H' => W cls d σ H')) h fun v u s2 x y H2 I2 rx ry q => ?_)
  obtain ⟨p, dx, fs, rfl, hp, ht, hsp⟩ := q
  obtain ⟨f, fd, ok, hfi, hf, _, hbd⟩ := c.ex
  obtain ⟨od, J⟩ := inst_of I2 hp
  cases rx
  refine bin_looks I2.kIn J B (lk_of I2 ry ht) hfi hf ?_
  refine wpAny_mono (call_at (sub_self hr) ok hbd I2 (vs := [.ref p, y]) (.cons rfl (.cons ry .nil)) hsp (fun e s' z => hx σ pins H2 s2 e s' I2 z)) (fun u s' z => back_ep z) fun _ _ z => z
end
/-! ### iter(t), t a tuple -/
def TiO (t it : Addr) : HO := .ext fun h => h.IsTupleIter it t 0
theorem tiO_ok {P : Program} {w : World} {H : Hp} {h : Heap} {t it : Addr} (e : h.IsTupleIter it t 0) : ObjOk P w H h it (TiO t it) := by
  obtain ⟨o, ho, hc, hd⟩ := id e
  exact ⟨e, ⟨o, ho⟩, fun h1 h2 z k => z.at fun o e => k _ e⟩
def rIterT (K : PySem.W.Frag) (n : Nat) : List V → Hp → VK → Prop := fun xs H Q => ∃ (t : Addr) (zs : List V), xs = [.ref t] ∧ SqT K H t zs ∧ ∀ it, H it = none → n ≤ it → Q (.ref it) (upd H it (TiO t it))
theorem call_iterT {X : Cx} : CallR X (.builtin "iter") (rIterT X.K X.s_0.heap.objs.size) := by
  intro pins s σ H xs us Q I r h
  obtain ⟨t, zs, rfl, hq, q⟩ := h
  cases r with
  | cons r1 r2 =>
    cases r2
    cases r1
    obtain ⟨its, rv, pl, hz⟩ := I.tuple hq
    refine Calls.call_function_entry (by decide +kernel) (by decide +kernel) PySem.W.kdk_entry_iter (PySem.W.kdk_args_iter _) ?_
    unfold Builtin.«iter»
    refine wpAny_bind (m := someArgs "iter" 1 2 _) (wpAny_of_eq (a := [Value.ref t]) (by first | rfl | kernel_rfl!) ?_)
    show wpAny _ _ (pyIter (.ref t) >>= _) _ _ _
    refine wpAny_bind (wpAny_pyIter_tuple pl ?_)
    refine wpAny_pure ⟨_, rfl, .ref s.heap.objs.size, _, I.laid (t' := s.toks) (fun b u e => Heap.get?_push_of_some _ e) (Nat.le_refl _) (tiO_ok ⟨_, Heap.get?_push_size _ rfl, rfl, rfl⟩), rfl, q _ (I.hok.fresh (Nat.le_refl _)) I.sz⟩
end Ow
namespace Ow
open PySem PySem.Spec PyProof.Rows L2 Bx TL Dx Zx ItX
/-- a def of the text, called at a state that one knows -/
theorem run_here {CX : CXT} {P : Program} {w : World} {K : PySem.W.Frag} {mg : Str → Option Value} {base : Heap} {k : Nat} {f : Addr} {nm qn : Str} {params : Arguments} {body : List Stmt} {scope : Scope} {dV kV doc pm cdv ct oc : Value} {an od : Option Addr} {osl : Array (Option Value)} {N ps : List Str}
    {A : Around} {outer : List Env} {s : Shared} {H : Hp} {args : Args} {us : List Value} {vs : List V} {Q : VK} {E : XK} (lk : K.lookup f = some ⟨oc, od, .func (PySem.W.fnOf nm qn params body scope dV kV doc pm an cdv ct), osl⟩) (cd : PySem.W.codeIn K cdv qn = true) (S : FnScope N ps scope) (room : Room (k + 1) A)
    (e0 : Env0 P w K mg base A outer s H) (hb : BindsTo s (PySem.W.fnOf nm qn params body scope dV kV doc pm an cdv ct) args (ps.zip us)) (rel : Vals vs us) (len : vs.length = ps.length)
    (reads : Room k (A.deeper (envOfC qn scope s.heap.objs.size f cdv)) → ∃ t, PSs (cxOf CX P w K mg base N qn scope f cdv A outer s H E) body t ∧ t { nx := fun _ H' => Q .non H', rt := Q } (start N vs) H) :
    codeAny (model P w) A (.call (.ref f) args) (CR CX outer P w H s Q E) s := by
  have kx : K.In s.heap := e0.mod.kin.keeps (fun p q z => (e0.bs p q z).1)
  have open_ : s.heap.NoLimit := e0.mod.nolimit.keeps (fun p q z => (e0.bs p q z).1)
  have kinds : ∀ y ∈ ps.zip us, scope.names.lookup y.1 = some .local ∨ (scope.names.lookup y.1 = some .cell ∧ ((cellsFrom (s.heap.objs.size + 1) scope.names []).lookup y.1).isSome = true) := by
    rintro ⟨one, val⟩ hy
    exact (S.par one (List.of_mem_zip hy).1).imp id (fun q => ⟨q, PySem.W.cellsFrom_some _ _ _ (.inl q)⟩)
  refine codeAny_call_function room.depth (kx _ _ lk) rfl S.co S.gen rfl (PySem.W.codeRec_of kx cd) ?_
  refine hb _ _ _ _ ?_
  refine wpAny_newFunctionEnv_cells S.kind kinds (fun env he s1 x => ?_)
  cases he
  refine ⟨open_.keeps x.toInCall.keep, codeAny_func ?_⟩
  obtain ⟨t, pt, ht⟩ := reads (room.deeper _)
  have J0 := inv_start (CX := CX) (E := E) S room.hd e0 len rel x
  refine wpAny_mono (pt.run [] s1 (start N vs) H _ J0 ht) ?_ (fun e s' z => z)
  intro fl s' back
  match fl, back with
  | .ret u, ⟨v, σ', H', J, rv, q⟩ => exact ⟨v, H', J.os, J.bare, J.base, J.hok, rv, q⟩
  | .next, ⟨σ', H', J, q⟩ => exact ⟨V.non, H', J.os, J.bare, J.base, J.hok, rfl, q⟩
  | .brk, ⟨_, _, _, q⟩ => exact q.elim
  | .cont, ⟨_, _, _, q⟩ => exact q.elim
/-! ### for x in o, where def __iter__(self): return iter(self.f) -/
structure ItM (P : Program) (w : World) (K : PySem.W.Frag) (mg : Str → Option Value) (base : Heap) (C : Addr) (f : Str) (k : Nat) : Prop where
  ex : ∃ fi : Addr, PySem.W.findIn K (.ref C) "__iter__" = some (some (.ref fi)) ∧ PySem.W.isFn K (.ref fi) = true ∧
    ∀ (A : Around) (outer : List Env) (s : Shared) (H : Hp) (E : XK) (p dx t : Addr) (fs : List (Str × V)) (zs : List V), Room k A → Env0 P w K mg base A outer s H → H p = some (.ins C dx fs) → fs.lookup f = some (.ref t) → SqT K H t zs →
      codeAny (model P w) A (.call (.ref fi) ⟨[.ref p], []⟩) (CR CX0 outer P w H s (fun v H' => ∃ it, v = .ref it ∧ H it = none ∧ s.heap.objs.size ≤ it ∧ H' = upd H it (TiO t it)) E) s
section
variable {X : Cx} {C : Addr}
def tIterO (K : PySem.W.Frag) (C : Addr) (f : Str) (te : TE) : TI := fun σ H R => te σ H fun x H1 => ∃ p dx fs t zs, x = .ref p ∧ H1 p = some (.ins C dx fs) ∧ fs.lookup f = some (.ref t) ∧ SqT K H1 t zs ∧ R (Itt K t) H1
theorem pi_iterO {tg l : Expr} {te : TE} {k : Nat} {f : Str} (c : ItM X.prog X.w X.K X.mg X.base C f k) (hr : Room k X.A) (he : PE X l te) : PI X tg l (tIterO X.K C f te) := by
  refine ⟨fun pins s σ H R I h => ?_⟩
  refine thn (he.run pins s σ H _ I h) fun v s1 ⟨x, H1, I1, r1, q1⟩ => ?_
  obtain ⟨p, dx, fs, t, zs, rfl, hp, hl, hz, hR⟩ := q1
  obtain ⟨fi, hfi, hf, go⟩ := c.ex
  obtain ⟨od, J⟩ := inst_of I1 hp
  obtain ⟨m, hF⟩ := I1.fr
  cases r1
  refine PySem.W.owit_iter hF I1.ok.mod.kin J hfi hf ?_
  refine wpAny_call (codeAny_mono (go X.A X.stack s1 H1 E0 p dx t fs zs hr I1.env0 hp hl hz) fun res s' back => ?_)
  match res, back with
  | .error e, back => exact back.elim
  | .ok .next, back => exact back.elim
  | .ok .brk, back => exact back.elim
  | .ok .cont, back => exact back.elim
  | .ok (.ret u), back =>
    obtain ⟨v, H2, I2, rv, it, rfl, n1, hy, rfl⟩ := I1.after back
    cases rv
    have e2 : upd H1 it (TiO t it) it = some (TiO t it) := upd_same
    have hit : s'.heap.IsTupleIter it t 0 := by
      have : ObjOk X.prog X.w (upd H1 it (TiO t it)) s'.heap it (.ext fun h => h.IsTupleIter it t 0) := I2.hok it _ e2
      exact this.1
    show wpAny _ _ (specialOf (.ref it) "__next__") _ _ _
    refine wpAny_specialOf (name := Str.ofString "__next__") hit.typeIs PySem.F.slot_tuple_iterator_next.lookup ?_
    have hn : X.s_0.heap.objs.size ≤ it := Nat.le_trans I1.sz hy
    have I3 := inv_drop I2 e2
    have fp := inv_fp I2 e2 hn
    rw [dropH_upd n1] at I3 fp
    refine ⟨it, [it], _, _, H1, rfl, I3, turn_tuple t it, hit, fun b hb => ?_, hR⟩
    rw [List.mem_singleton.mp hb]
    exact fp
end
end Ow
/-! Own classes: o + p of one class, k * o, -o; dict(t) of a tuple of pairs. -/
namespace Ow
open PySem PySem.Spec PyProof.Rows L2 Bx TL Dx Zx ItX
theorem bin_same {prog : Program} {w : World} {A : Around} {E : Value → Shared → Prop} {s : Shared} {K : PySem.W.Frag} {x y C f : Addr} {ox oy : Obj} {od oe : Option Obj} {op : Operator} {Q : Value → Shared → Prop}
    (X : K.In s.heap) (I : PySem.W.InstAt s.heap x ox C od) (J : PySem.W.InstAt s.heap y oy C oe) (first : PySem.W.selfFirst K C = true) (hs : PySem.W.findIn K (.ref C) (PySem.dunder op.info.2) = some (some (.ref f))) (hf : PySem.W.isFn K (.ref f) = true)
    (h : wpAny (model prog w) A (call (.ref f) [.ref x, .ref y]) (PySem.W.CmpBack Q) E s) : wpAny (model prog w) A (binaryOp op (.ref x) (.ref y)) Q E s := by
  obtain ⟨cd, rest, hcd, hm⟩ := PySem.W.ksp_first first
  cases hi : op.info with
  | mk sym nm =>
    rw [hi] at hs
    dsimp only at hs
    have called := PySem.W.ksp_try X I hs hf h
    have d1 : PySem.W.Looks (model prog w) s.heap (typeOf (.ref x)) (.ref C) := I.type
    have d2 : PySem.W.Looks (model prog w) s.heap (typeOf (.ref y)) (.ref C) := J.type
    have d3 : PySem.W.Looks (model prog w) s.heap (fillsNumberSlot (.ref C) nm) true := PySem.W.fills_K X hcd hm hs
    clear X I J hs hf h
    obtain ⟨hp, g, dd, tt, os⟩ := s
    have same : (Value.ref C == Value.ref C) = true := beq_self_eq_true _
    simp only [binaryOp, hi]
    refine wpAny_holding (wpAny_bind ?_)
    unfold binaryOp1
    refine wpAny_bind (d1.at (wpAny_bind ?_))
    refine d2.at (wpAny_bind (d3.at ?_))
    simp only [same, if_true]
    ksp_lk
    refine wpAny_mono called (fun r s' z => ?_) fun _ _ e => e
    obtain ⟨v, rfl, z⟩ := z
    ksp_lk
    exact z
section
variable {X : Cx} {C : Addr} {k : Nat} {ps : List Str} {sp : Sp} {op : Operator}
def rBinSame (C : Addr) (sp : Sp) : V → V → Hp → VK → Prop := fun x y H Q => ∃ p q dx dy fs gs, x = .ref p ∧ y = .ref q ∧ H p = some (.ins C dx fs) ∧ H q = some (.ins C dy gs) ∧ sp [.ref p, .ref q] H Q E0
theorem op_same (c : OwM X.prog X.w X.K X.mg X.base CX0 C (PySem.dunder op.info.2) k ps sp) (first : PySem.W.selfFirst X.K C = true) (hr : Room k X.A) : OpR X (binaryOp op) (rBinSame C sp) := by
  intro pins s σ H x y u v Q I rx ry h
  obtain ⟨p, q, dx, dy, fs, gs, rfl, rfl, hp, hq, hsp⟩ := h
  obtain ⟨f, fd, ok, hs, hf, _, hb⟩ := c.ex
  obtain ⟨od, J⟩ := inst_of I hp
  obtain ⟨oe, J2⟩ := inst_of I hq
  cases rx
  cases ry
  refine bin_same I.kIn J J2 first hs hf ?_
  refine wpAny_mono (call_at (sub_self hr) ok hb I (vs := [.ref p, .ref q]) (.cons rfl (.cons rfl .nil)) hsp (fun e s' z => z.elim)) (fun u s' z => back_ep z) fun _ _ z => z
/-- o op x -/
def rBinT (K : PySem.W.Frag) (C : Addr) (T : String) (sp : Sp) : V → V → Hp → VK → Prop := fun x y H Q => ∃ p dx fs, x = .ref p ∧ H p = some (.ins C dx fs) ∧ TyO K H y T ∧ sp [.ref p, y] H Q E0
theorem op_ownT {T : String} (c : OwM X.prog X.w X.K X.mg X.base CX0 C (PySem.dunder op.info.2) k ps sp) (B : BinF X.K C op T) (hr : Room k X.A) : OpR X (binaryOp op) (rBinT X.K C T sp) := by
  intro pins s σ H x y u v Q I rx ry h
  obtain ⟨p, dx, fs, rfl, hp, ht, hsp⟩ := h
  obtain ⟨f, fd, ok, hs, hf, _, hb⟩ := c.ex
  obtain ⟨od, J⟩ := inst_of I hp
  cases rx
  refine bin_looks I.kIn J B (lk_of I ry ht) hs hf ?_
  refine wpAny_mono (call_at (sub_self hr) ok hb I (vs := [.ref p, y]) (.cons rfl (.cons ry .nil)) hsp (fun e s' z => z.elim)) (fun u s' z => back_ep z) fun _ _ z => z
/-- -o -/
theorem un_negO (c : OwM X.prog X.w X.K X.mg X.base CX0 C "__neg__" k ps sp) (hr : Room k X.A) : UnR X (unaryOp .USub) (fun x H Q => ∃ p dx fs, x = .ref p ∧ H p = some (.ins C dx fs) ∧ sp [.ref p] H Q E0) := by
  intro pins s σ H x u Q I rx h
  obtain ⟨p, dx, fs, rfl, hp, hsp⟩ := h
  obtain ⟨f, fd, ok, hs, hf, _, hb⟩ := c.ex
  obtain ⟨od, J⟩ := inst_of I hp
  obtain ⟨m, hF⟩ := I.fr
  cases rx
  refine PySem.W.ksp_neg hF I.ok.mod.kin J hs hf ?_
  exact call_at (sub_self hr) ok hb I (vs := [.ref p]) (.cons rfl .nil) hsp (fun e s' z => z.elim)
/-- o[i] -/
theorem pe_subO0 {a b : Expr} {ta tb : TE} {pos : Pos} (c : OwM X.prog X.w X.K X.mg X.base CX0 C "__getitem__" k ps sp) (fi : ∀ f, PySem.W.findIn X.K (.ref C) "__getitem__" = some (some (.ref f)) → PySem.W.fnIn X.K f = true) (hr : Room (k + 1) X.A) (ha : PE X a ta) (hb : PE X b tb)
    (hs : ∀ v u, subscripted b true v u = runValue (.builtin "lifetime.subscript" ⟨[v, u], []⟩) := by intro _ _; rfl) : PE X (.Subscript a b pos) (tSubO C sp (fun _ _ _ _ => False) ta tb) :=
  pe_subO c fi hr (fun _ _ _ _ _ _ _ h => h.elim) ha hb hs
end
end Ow
/-! tuple(xs) without a dict of its own; dict(t) of such a tuple of pairs; k * o. -/
namespace Ow
open PySem PySem.Spec PyProof.Rows L2 Bx TL Dx Zx ItX
/-- a tuple without a dict of its own -/
def PlT (H : Hp) (a : Addr) (xs : List V) : Prop := ∃ o, H a = some (.frz o (.tup xs)) ∧ o.dict = none
theorem PlT.sq {K : PySem.W.Frag} {H : Hp} {a : Addr} {xs : List V} (h : PlT H a xs) : SqT K H a xs := .inl (.inr ⟨_, h.choose_spec.1⟩)
theorem PlT.same {H H' : Hp} {a : Addr} {xs : List V} (s : Same H H') (h : PlT H a xs) : PlT H' a xs := ⟨_, s _ _ h.choose_spec.1, h.choose_spec.2⟩
section
variable {X : Cx}
def rTupF (K : PySem.W.Frag) : List V → Hp → VK → Prop := fun xs H Q => ∃ p ys, xs = [.ref p] ∧ SqL K H p ys ∧ ∀ l o, H l = none → o.dict = none → Q (.ref l) (upd H l (.frz o (.tup ys)))
theorem call_tupleF : CallR X (.type "tuple") (rTupF X.K) := by
  intro pins s σ H xs us Q I r h
  obtain ⟨p, ys, rfl, hq, q⟩ := h
  obtain ⟨u, rfl, rx⟩ := vals1 r
  cases rx
  obtain ⟨its, r', pl, hz⟩ := I.list hq
  have hlen := r'.length
  refine call_tuple_list pl.isList (fun h' kp => ?_) (by simp only [List.size_toArray] <;> omega)
  have I1 : Inv X pins σ H { s with heap := h' } := I.kept (t' := s.toks) kp
  let o : Obj := { cls := .type "tuple", data := .seq its.toArray }
  have I2 : Inv X pins σ (upd H h'.objs.size (.frz o (.tup ys))) { s with heap := h'.push o } :=
    I1.laid (t' := s.toks) (fun b o e => Heap.get?_push_of_some _ e) (Nat.le_refl _) (show ObjOk X.prog X.w _ _ _ (.frz o (.tup ys)) from ⟨Heap.get?_push_size _ rfl, hz, its, r', IsTup.new _ _⟩)
  exact ⟨.ref h'.objs.size, _, I2, rfl, q _ o (I1.hok.fresh (Nat.le_refl _)) rfl⟩
def rDictT (K : PySem.W.Frag) : List V → Hp → VK → Prop := fun xs H Q => ∃ (a : Addr) (ps : List Addr) (kvs : List (Key × V)), xs = [.ref a] ∧ PlT H a (ps.map V.ref) ∧ Paired (fun p kv => SqT K H p [kV kv.1, kv.2]) ps kvs ∧
    ∀ p, H p = none → Q (.ref p) (upd H p (.dK (mergeK [] kvs)))
theorem call_dictT (hcalm : X.calm = true) : CallR X (.type "dict") (rDictT X.K) := by
  intro pins s σ H xs us Q I r q
  obtain ⟨a, ps, kvs, rfl, ⟨o, ha, hod⟩, hp, q⟩ := q
  obtain ⟨u, rfl, rx⟩ := vals1 r
  cases rx
  obtain ⟨hg, hz, its, rv, o2, ho2, hc, n, hdat⟩ : ObjOk X.prog X.w H s.heap a (.frz o (.tup (ps.map V.ref))) := I.hok a _ ha
  rw [hg] at ho2
  obtain rfl := Option.some.inj ho2
  have ei := refs_at rv
  subst ei
  obtain ⟨prs, rel, hl, hpr⟩ := pairs_of I hp
  rw [List.length_map] at hz
  have at_ : ∀ (j : Nat) (q : Key × Value), prs[j]? = some q → ∃ u : Value, IsTup s.heap (ps.getD j 0) #[u, q.2] ∧ ps[j]? = some (ps.getD j 0) ∧ keyIs q.1 u = true := fun j q e => by
    obtain ⟨b, u, e1, e2, e3⟩ := hpr j q e
    have e4 : ps.getD j 0 = b := by rw [List.getD_eq_getElem?_getD, e1]; rfl
    rw [e4]
    exact ⟨u, e2, e1, e3⟩
  classical
  let key : Nat → Value := fun j => match prs[j]? with
    | some q => (if h : ∃ u : Value, IsTup s.heap (ps.getD j 0) #[u, q.2] ∧ keyIs q.1 u = true then h.choose else .none)
    | none => .none
  have keyAt : ∀ (j : Nat) (q : Key × Value), prs[j]? = some q → IsTup s.heap (ps.getD j 0) #[key j, q.2] ∧ keyIs q.1 (key j) = true := fun j q e => by
    obtain ⟨u, h1, _, h3⟩ := at_ j q e
    have hh : ∃ u : Value, IsTup s.heap (ps.getD j 0) #[u, q.2] ∧ keyIs q.1 u = true := ⟨u, h1, h3⟩
    have ek : key j = hh.choose := by
      show (match prs[j]? with | some q => _ | none => _) = _
      rw [e]
      exact dif_pos hh
    rw [ek]
    exact hh.choose_spec
  let vps : List (Value × Value) := (List.range prs.length).map fun j => (key j, match prs[j]? with | some q => q.2 | none => .none)
  have vlen : vps.length = prs.length := by simp [vps]
  have vat : ∀ j k v, vps[j]? = some (k, v) → ∃ q : Key × Value, prs[j]? = some q ∧ k = key j ∧ v = q.2 := fun j k v e => by
    have hj : j < prs.length := by
      have := (List.getElem?_eq_some_iff.mp e).1
      omega
    have e1 : prs[j]? = some prs[j] := List.getElem?_eq_getElem hj
    refine ⟨prs[j], e1, ?_⟩
    have e2 : vps[j]? = some (key j, prs[j].2) := by
      simp only [vps, List.getElem?_map, List.getElem?_range hj, Option.map_some, e1]
    rw [e2] at e
    cases e
    exact ⟨rfl, rfl⟩
  have P := PySem.PairArg.tuple (prog := X.prog) (w := X.w) a (ps.map Value.ref).toArray (fun j => ps.getD j 0) vps
  refine PySem.call_dict_pairs (knd := mixKind X.prog X.w) (kvs := prs) P (I.ok.hd hcalm) ⟨⟨o, n, hg, hc, hod, hdat⟩, by rw [List.size_toArray, List.length_map, vlen, hl], fun j k v e => ?_⟩ ⟨vlen.symm, fun i k v e => ?_⟩ (by rw [vlen, hl]; exact hz) fun h' tk hd' kp => ?_
  · obtain ⟨q, e1, rfl, rfl⟩ := vat j k v e
    obtain ⟨u, _, e3, _⟩ := at_ j q e1
    refine ⟨?_, .inl (keyAt j q e1).1⟩
    rw [List.getElem?_toArray, List.getElem?_map, e3]
    rfl
  · obtain ⟨q, e1, rfl, rfl⟩ := vat i k v e
    exact ⟨q.1, e1, (keyAt i q e1).2⟩
  · have hm : (s.heap.objs.size == sysModules) = false := beq_eq_false_iff_ne.mpr (Nat.ne_of_gt I.big)
    have hlen : (mergeK [] kvs).length ≤ sizeLine := by
      refine Nat.le_trans (length_mergeK kvs []) ?_
      rw [List.length_nil, Nat.zero_add, rel.length, hl]
      exact hz
    exact ⟨.ref s.heap.objs.size, upd H s.heap.objs.size (.dK (mergeK [] kvs)), I.laid (t' := tk) (fun b o e => kp b o (fun h => nomatch h) e) (Nat.le_refl _) (show ObjOk X.prog X.w _ _ _ (.dK (mergeK [] kvs)) from ⟨hlen, hm, merged [] prs, KV.merge rel .nil, hd'⟩), rfl, q _ (I.hok.fresh (Nat.le_refl _))⟩
end
/-! ### k * o -/
theorem int_mul_ins (a : Int) (t : Tok) (l C dx : Addr) :
    Meets (Builtin.«int.__mul__» ⟨[.int a t, .ref l], []⟩) (fun _ R s => s.heap.get? l = some (PySem.W.instObj C dx) ∧ R (.ok (.ret Value.notImplemented)) s) :=
  .of_wp fun prog w A R s h => by obtain ⟨hp, g, d, tk, os⟩ := s; obtain ⟨hl, h⟩ := h; wp_walk; exact ⟨_, rfl, h⟩
theorem int_declines {prog : Program} {w : World} {A : Around} {E : Value → Shared → Prop} {s : Shared} {k : Int} {t : Tok} {x C dx : Addr} {Q : Value → Shared → Prop} (hg : s.heap.get? x = some (PySem.W.instObj C dx)) (q : Q .notImplemented s) :
    wpAny (model prog w) A (call (.builtin "int.__mul__") [.int k t, .ref x]) Q E s :=
  call_meets F.slot_int_mul (typeIs_int s k t) F.entry_int_mul (F.args_int_mul_2 _ _) (int_mul_ins k t x C dx) ⟨hg, q⟩
theorem try_declines {prog : Program} {w : World} {A : Around} {E : Value → Shared → Prop} {s : Shared} {k : Int} {t : Tok} {x C dx : Addr} {Q : Option Value → Shared → Prop} (hg : s.heap.get? x = some (PySem.W.instObj C dx)) (q : Q none s) :
    wpAny (model prog w) A (tryMethod (.int k t) (dunder "mul") (.ref x)) Q E s := by
  refine wpAny_tryMethod_declines (T := "int") (name := dunder "mul") (id := "int.__mul__") ?_ ?_ ?_
  · exact typeIs_int s k t
  · exact F.slot_int_mul
  exact int_declines hg ⟨rfl, q⟩
theorem bin_right {prog : Program} {w : World} {A : Around} {E : Value → Shared → Prop} {s : Shared} {K : PySem.W.Frag} {x C f dx : Addr} {od : Option Obj} {k : Int} {t : Tok} {Q : Value → Shared → Prop}
    (X : K.In s.heap) (I : PySem.W.InstAt s.heap x (PySem.W.instObj C dx) C od) (first : PySem.W.selfFirst K C = true) (hl : PySem.W.findIn K (.ref C) "__mul__" = some (some (.ref f))) (hs : ∃ g : Addr, PySem.W.findIn K (.ref C) "__rmul__" = some (some (.ref g)) ∧ PySem.W.isFn K (.ref g) = true ∧
      wpAny (model prog w) A (call (.ref g) [.ref x, .int k t]) (PySem.W.CmpBack Q) E s)
    (hsub : PySem.W.subIn K (.ref C) (.type "int") = some false) : wpAny (model prog w) A (binaryOp .Mult (.int k t) (.ref x)) Q E s := by
  obtain ⟨g, hr, hf, h⟩ := hs
  obtain ⟨cd, rest, hcd, hm⟩ := PySem.W.ksp_first first
  have hg : s.heap.get? x = some (PySem.W.instObj C dx) := by
    exact I.at_
  have called := PySem.W.ksp_try X I hr hf h
  have d1 : PySem.W.Looks (model prog w) s.heap (typeOf (.ref x)) (.ref C) := I.type
  have d3 : PySem.W.Looks (model prog w) s.heap (fillsNumberSlot (.ref C) "mul") true := PySem.W.fills_K X hcd hm hl
  have d5 : PySem.W.Looks (model prog w) s.heap (isSubtype (.ref C) (.type "int")) false := PySem.W.looks_subIn X hsub
  clear X I hl hr hf h
  simp only [binaryOp]
  refine wpAny_holding (wpAny_bind ?_)
  show wpAny _ _ (binaryOp1 "mul" _ _) _ _ _
  simp only [binaryOp1]
  refine wpAny_bind (wpAny_typeOf (typeIs_int s k t) (wpAny_bind (d1.at (wpAny_bind (wpAny_of_eq F.fills_int_mul ?_)))))
  have hne : (Value.type "int" == Value.ref C) = false := Bool.eq_false_iff.mpr fun q => by cases beq_iff_eq.mp q
  simp only [hne, Bool.false_eq_true, if_false]
  refine wpAny_bind (d3.at ?_)
  simp only [Bool.and_self, if_true]
  refine wpAny_bind (d5.at ?_)
  have hpy : numberSlotInPython (.type "int") "mul" = pure false := rfl
  simp only [Bool.false_eq_true, if_false, pure_bind, Bool.not_false, Bool.and_self, if_true, hpy]
  refine wpAny_bind (try_declines hg ?_)
  refine wpAny_bind (wpAny_mono called (fun r s' z => ?_) fun _ _ e => e)
  obtain ⟨v, rfl, z⟩ := z
  exact wpAny_bind (wpAny_rule (wpAny_pure (wpAny_pure z)))
section
variable {X : Cx} {C : Addr} {k : Nat} {ps : List Str} {sp : Sp}
/-- k * o -/
def rMulR (C : Addr) (sp : Sp) : V → V → Hp → VK → Prop := fun x y H Q => ∃ p dx fs n, x = .int n ∧ y = .ref p ∧ H p = some (.ins C dx fs) ∧ sp [.ref p, .int n] H Q E0
theorem op_mulR (c : OwM X.prog X.w X.K X.mg X.base CX0 C "__rmul__" k ps sp) (first : PySem.W.selfFirst X.K C = true) (hl : ∃ f : Addr, PySem.W.findIn X.K (.ref C) "__mul__" = some (some (.ref f))) (hsub : PySem.W.subIn X.K (.ref C) (.type "int") = some false) (hr : Room k X.A) : OpR X (binaryOp .Mult) (rMulR C sp) := by
  intro pins s σ H x y u v Q I rx ry h
  obtain ⟨p, dx, fs, n, rfl, rfl, hp, hsp⟩ := h
  obtain ⟨f, fd, ok, hs, hf, _, hb⟩ := c.ex
  obtain ⟨fl, hfl⟩ := hl
  obtain ⟨od, J⟩ := inst_of I hp
  obtain ⟨t, rfl⟩ := id rx
  cases ry
  refine bin_right I.kIn J first hfl ⟨f, hs, hf, ?_⟩ hsub
  refine wpAny_mono (call_at (sub_self hr) ok hb I (vs := [.ref p, .int n]) (.cons rfl (.cons rx .nil)) hsp (fun e s' z => z.elim)) (fun u s' z => back_ep z) fun _ _ z => z
end
end Ow
namespace Ow
open PySem PySem.Spec PyProof.Rows L2 Bx TL Dx Zx ItX
/-! ### calls with defaults, new instances, methods, by their promises -/
structure CalD (P : Program) (w : World) (K : PySem.W.Frag) (mg : Str → Option Value) (base : Heap) (x : Str) (k : Nat) (ps : List Str) (sp : Sp) (dvs : List V) : Prop where
  ex : ∃ (f : Addr) (fd : FuncData) (ds : List Value), FnOk P w K mg base CX0 k f fd ps sp ∧ mg x = some (.ref f) ∧ PySem.W.keepIn K (.ref f) = true ∧ Binds K fd ps ds ∧ Vals dvs ds
structure MakC (P : Program) (w : World) (K : PySem.W.Frag) (mg : Str → Option Value) (base : Heap) (x : Str) (C : Addr) (k : Nat) (ps : List Str) (sp : Sp) (dvs : List V) : Prop where
  ex : ∃ (f : Addr) (fd : FuncData) (ds : List Value), Mk K C f ∧ FnOk P w K mg base CX0 k f fd ps sp ∧ mg x = some (.ref C) ∧ Binds K fd ps ds ∧ Vals dvs ds
structure MthC (P : Program) (w : World) (K : PySem.W.Frag) (mg : Str → Option Value) (base : Heap) (C : Addr) (m : Str) (k : Nat) (ps : List Str) (sp : Sp) : Prop where
  ex : ∃ (f : Addr) (fd : FuncData), Cls K C ∧ Meth K C m f ∧ FnOk P w K mg base CX0 k f fd ps sp ∧ Binds K fd ps []
section
variable {X : Cx} {x : Str} {k : Nat} {ps : List Str} {sp : Sp} {e : Expr} {es : List Expr} {t : TA} {p pos : Pos} {dvs : List V} {C : Addr}
theorem pe_calD (c : CalD X.prog X.w X.K X.mg X.base x k ps sp dvs) (hr : Room k X.A) (ha : PA X (e :: es) t) (hg : Gl X x := by rfl) (hdb : (x == ("__debug__" : Str)) = false := by decide)
    (he : starEach (e :: es) X.env = (false, eval e X.env) :: starEach es X.env := by rfl) (hpl : (backTo pos (starEach es X.env)).any (·.1) = false := by rfl) : PE X (.Call (.Name x p) (e :: es) [] pos) (tCall sp dvs E0 t) := by
  obtain ⟨f, fd, ds, ok, g, kp, b, r⟩ := c.ex
  exact pe_call (E := E0) ok hr hg g kp b r pass0 ha hdb he hpl (p := p)
theorem pe_mak (c : MakC X.prog X.w X.K X.mg X.base x C k ps sp []) (hr : Room (k + 1) X.A) (ha : PA X (e :: es) t) (hg : Gl X x := by rfl) (hdb : (x == ("__debug__" : Str)) = false := by decide)
    (he : starEach (e :: es) X.env = (false, eval e X.env) :: starEach es X.env := by rfl) (hpl : (backTo pos (starEach es X.env)).any (·.1) = false := by rfl) : PE X (.Call (.Name x p) (e :: es) [] pos) (tMake C sp [] E0 t) := by
  obtain ⟨f, fd, ds, M, ok, g, b, r⟩ := c.ex
  exact pe_make (E := E0) M ok hr hg g b r pass0 ha hdb he hpl (p := p)
theorem pe_mak0 (c : MakC X.prog X.w X.K X.mg X.base x C k ps sp dvs) (hr : Room (k + 1) X.A) (hg : Gl X x := by rfl) (hdb : (x == ("__debug__" : Str)) = false := by decide) : PE X (.Call (.Name x p) [] [] pos) (tMake C sp dvs E0 tNil) := by
  obtain ⟨f, fd, ds, M, ok, g, b, r⟩ := c.ex
  exact pe_make0 (E := E0) M ok hr hg g b r pass0 hdb (p := p)
theorem pe_mth {m : Str} {o : Expr} {to : TE} {apos : Pos} {pl : Sem Bool} (c : MthC X.prog X.w X.K X.mg X.base C m k ps sp) (hr : Room k X.A) (ho : PE X o to) (ha : PA X (e :: es) t)
    (hst : starEach (e :: es) X.env = (false, eval e X.env) :: starEach es X.env := by rfl) (hpl : (backTo pos (starEach es X.env)).any (·.1) = false := by rfl)
    (ht : eval (.Call (.Attribute o m apos) (e :: es) [] pos) X.env = (do
      let ov ← eval o X.env
      standAt apos.atName
      let (f, first) ← holding [ov] (getMethod ov m pl)
      callWith pos f first (backTo pos (starEach (e :: es) X.env)) (backToKw pos (keywordEach [] X.env))) := by rfl) : PE X (.Call (.Attribute o m apos) (e :: es) [] pos) (tMeth C m sp [] E0 to t) := by
  obtain ⟨f, fd, cl, mt, ok, b⟩ := c.ex
  exact pe_meth (E := E0) ho cl mt ok hr b .nil pass0 ha hst hpl ht
end
/-! ### // by any divisor -/
def CDivZ (_ j : Int) : Prop := j ≠ 0 ∧ j.natAbs.log2 < 9000
theorem op_fdivZ {X : Cx} : OpR X (binaryOp .FloorDiv) (rI CDivZ fun i j => .int (i.fdiv j)) := opI fun i j _ _ _ _ _ hc q => floordiv_int hc.1 q (.inl (PyProof.noPylong_of_log2 hc.2))
theorem wide_divZ {i j : Int} {b : Nat} (h : j ≠ 0) (hb : j.natAbs < 2 ^ b) (h0 : 0 < b) (h9 : b ≤ 9000) : CDivZ i j := ⟨h, Nat.lt_of_lt_of_le (PySem.Flt.log2_lt_of h0 hb) h9⟩
end Ow
/-! Calls that may raise, with a wish that knows the slots: C(..), o.m(..), f(..); C held by a local; list.count of texts. -/
namespace Px
open PySem PySem.Spec PyProof.Rows L2 Bx TL Dx Zx Ow
theorem passN {X : Cx} : Passes (L2.CX X.prog X.w) X E0 := fun _ _ _ _ _ _ _ ⟨_, _, _, _, _, _, _, _, _, _, _, _, z⟩ => z.elim
/-- `C(..)`, whose `__init__` may raise -/
structure MakX (P : Program) (w : World) (K : PySem.W.Frag) (mg : Str → Option Value) (base : Heap) (x : Str) (C : Addr) (k : Nat) (ps : List Str) (sp : Sp) : Prop where
  ex : ∃ (f : Addr) (fd : FuncData), Mk K C f ∧ FnOk P w K mg base (L2.CX P w) k f fd ps sp ∧ mg x = some (.ref C) ∧ Binds K fd ps []
structure MthX (P : Program) (w : World) (K : PySem.W.Frag) (mg : Str → Option Value) (base : Heap) (C : Addr) (m : Str) (k : Nat) (ps : List Str) (sp : Sp) : Prop where
  ex : ∃ (f : Addr) (fd : FuncData), Cls K C ∧ Meth K C m f ∧ FnOk P w K mg base (L2.CX P w) k f fd ps sp ∧ Binds K fd ps []
structure CalE (P : Program) (w : World) (K : PySem.W.Frag) (mg : Str → Option Value) (base : Heap) (x : Str) (k : Nat) (ps : List Str) (sp : Sp) : Prop where
  ex : ∃ (f : Addr) (fd : FuncData), FnOk P w K mg base (L2.CX P w) k f fd ps sp ∧ mg x = some (.ref f) ∧ PySem.W.keepIn K (.ref f) = true ∧ Binds K fd ps []
section
variable {X : Cx} {x : Str} {k : Nat} {ps : List Str} {sp : Sp} {e : Expr} {es : List Expr} {t : TA} {p pos : Pos} {C : Addr} {W : WX}
theorem run_makS {pins : List (Addr × Obj)} {σ : L2.St} {H : Hp} {s : Shared} {Q : VK} {E : XK} {us : List Value} {vs : List V} {f : Addr} {fd : FuncData} (M : Mk X.K C f) (F : FnOk X.prog X.w X.K X.mg X.base (L2.CX X.prog X.w) k f fd ps sp) (hr : Room (k + 1) X.A) (b : Binds X.K fd ps [])
    (hx : PassesAt (L2.CX X.prog X.w) X σ E) (I : Inv X pins σ H s) (rv : Vals vs us) (h : ∀ y dy, H y = none → H dy = none → dy ≠ y → sp (.ref y :: vs) (upd (upd H dy (.own y)) y (.ins C dy [])) (fun v G => v = .non ∧ Q (.ref y) G) E) :
    wpAny (model X.prog X.w) X.A (call (.ref C) us) (EP X pins σ Q) X.xe s := by
  have n1 := I.hok.fresh (Nat.le_refl s.heap.objs.size)
  have n2 := I.hok.fresh (Nat.le_succ s.heap.objs.size)
  have g := h _ _ n2 n1 (Nat.ne_of_lt (Nat.lt_succ_self s.heap.objs.size))
  have J := Inv.made (C := C) I
  have rs : Vals (V.ref (s.heap.objs.size + 1) :: vs) (Value.ref (s.heap.objs.size + 1) :: us) := .cons rfl rv
  have ln : (Value.ref (s.heap.objs.size + 1) :: us).length = ps.length := rs.length.symm.trans (F.len _ _ _ _ g)
  have bd := b _ (Value.ref (s.heap.objs.size + 1) :: us) J.kIn (by rw [List.append_nil]; exact ln)
  rw [List.append_nil] at bd
  refine wpAny_call (make_map (f := f) I.kIn M.makes M.init (beq_iff_eq.mp M.fn) (codeAny_mono (F.run _ X.stack _ _ _ _ _ _ E (hr.make C us []) (J.env0.make C us []) bd rs g) fun res s' back => ?_))
  match res, back with
  | .error er, back => exact hx pins _ _ er s' J back
  | .ok (.ret u), back =>
    obtain ⟨v, G, J2, r2, e2, q⟩ := J.after back
    subst e2
    exact ⟨r2, .ref (s.heap.objs.size + 1), G, J2, rfl, q⟩
  | .ok .next, back => exact back.elim
  | .ok .brk, back => exact back.elim
  | .ok .cont, back => exact back.elim
def tMakX (C : Addr) (sp : Sp) (W : WX) (t : TA) : TE := fun σ H Q => t σ H fun vs H1 => ∀ y dy, H1 y = none → H1 dy = none → dy ≠ y → sp (.ref y :: vs) (upd (upd H1 dy (.own y)) y (.ins C dy [])) (fun v G => v = .non ∧ Q (.ref y) G) (WE W σ)
theorem pe_makX (c : MakX X.prog X.w X.K X.mg X.base x C k ps sp) (tk : Takes X W) (hr : Room (k + 1) X.A) (ha : PA X (e :: es) t) (hg : Gl X x := by rfl) (hdb : (x == ("__debug__" : Str)) = false := by decide)
    (he : starEach (e :: es) X.env = (false, eval e X.env) :: starEach es X.env := by rfl) (hpl : (backTo pos (starEach es X.env)).any (·.1) = false := by rfl) : PE X (.Call (.Name x p) (e :: es) [] pos) (tMakX C sp W t) := by
  obtain ⟨f, fd, M, ok, g, b⟩ := c.ex
  refine ⟨fun pins s σ H Q I h => wpAny_Call_Name_kw (ld_glob I hg g ?_ hdb)⟩
  exact PySem.W.callWith_K (h₀ := X.base) I.ok.mod.kin M.kp (thn (ha.run pos pins s σ H _ I h) fun us s1 ⟨vs, H1, I1, rv, q⟩ => ⟨I1.kIn, run_makS M ok hr b (passAt tk σ) I1 rv q⟩) he hpl
theorem pe_makN (c : MakX X.prog X.w X.K X.mg X.base x C k ps sp) (hr : Room (k + 1) X.A) (ha : PA X (e :: es) t) (hg : Gl X x := by rfl) (hdb : (x == ("__debug__" : Str)) = false := by decide)
    (he : starEach (e :: es) X.env = (false, eval e X.env) :: starEach es X.env := by rfl) (hpl : (backTo pos (starEach es X.env)).any (·.1) = false := by rfl) : PE X (.Call (.Name x p) (e :: es) [] pos) (tMake C sp [] E0 t) := by
  obtain ⟨f, fd, M, ok, g, b⟩ := c.ex
  exact pe_make (E := E0) M ok hr hg g b .nil passN ha hdb he hpl (p := p)
/-- the class in a slot: `cls(..)` -/
def tMakL (i : Nat) (C : Addr) (sp : Sp) (t : TA) : TE := fun σ H Q => σ[i]? = some (some (.ref C)) ∧ tMake C sp [] E0 t σ H Q
theorem pe_makL {i : Nat} {y : Str} (c : MakX X.prog X.w X.K X.mg X.base x C k ps sp) (hr : Room (k + 1) X.A) (hN : X.N[i]? = some y) (hv : Vis X.env.scope y) (ha : PA X (e :: es) t) (hdb : (y == ("__debug__" : Str)) = false := by decide) (hcd : (y == ("__classdict__" : Str)) = false := by decide)
    (he : starEach (e :: es) X.env = (false, eval e X.env) :: starEach es X.env := by rfl) (hpl : (backTo pos (starEach es X.env)).any (·.1) = false := by rfl) : PE X (.Call (.Name y p) (e :: es) [] pos) (tMakL i C sp t) := by
  obtain ⟨f, fd, M, ok, g, b⟩ := c.ex
  refine ⟨fun pins s σ H Q I h => ?_⟩
  obtain ⟨h1, h2⟩ := h
  refine wpAny_Call_Name_kw (thn ((pe_var (pos := p) hN hv hdb hcd).run pins s σ H (fun v G => v = .ref C ∧ G = H) I ⟨.ref C, h1, rfl, rfl⟩) fun u s1 ⟨v, G, I1, r1, q1⟩ => ?_)
  obtain ⟨rfl, rfl⟩ := q1
  cases r1
  exact PySem.W.callWith_K (h₀ := X.base) I.ok.mod.kin M.kp (thn (ha.run pos pins s1 σ _ _ I1 h2) fun us s2 ⟨vs, H2, I2, rv, q⟩ => ⟨I2.kIn, run_make M ok hr b .nil passN I2 rv q⟩) he hpl
def tMthX (C : Addr) (m : Str) (sp : Sp) (W : WX) (ta : TE) (t : TA) : TE := fun σ H Q => ta σ H fun v H1 => ∃ a dx fs, v = .ref a ∧ H1 a = some (.ins C dx fs) ∧ fs.lookup m = none ∧ t σ H1 fun vs H2 => sp (v :: vs) H2 Q (WE W σ)
theorem pe_mthX {m : Str} {o : Expr} {to : TE} {apos : Pos} {pl : Sem Bool} (c : MthX X.prog X.w X.K X.mg X.base C m k ps sp) (tk : Takes X W) (hr : Room k X.A) (ho : PE X o to) (ha : PA X (e :: es) t)
    (hst : starEach (e :: es) X.env = (false, eval e X.env) :: starEach es X.env := by rfl) (hpl : (backTo pos (starEach es X.env)).any (·.1) = false := by rfl)
    (ht : eval (.Call (.Attribute o m apos) (e :: es) [] pos) X.env = (do
      let ov ← eval o X.env
      standAt apos.atName
      let (f, first) ← holding [ov] (getMethod ov m pl)
      callWith pos f first (backTo pos (starEach (e :: es) X.env)) (backToKw pos (keywordEach [] X.env))) := by rfl) : PE X (.Call (.Attribute o m apos) (e :: es) [] pos) (tMthX C m sp W to t) := by
  obtain ⟨f, fd, cl, mt, ok, b⟩ := c.ex
  refine ⟨fun pins s σ H Q I h => PySem.W.methodCall_KW (pl := pl) (thn (ho.run pins s σ H _ I h) fun u s1 ⟨v, H1, I1, rx, a, dx, fs, ev, ea, l, q⟩ => ?_) ht⟩
  subst ev
  cases rx
  refine getmeth_ok I1 ea cl mt l (PySem.W.callWith_K (first := [.ref a]) (h₀ := X.base) I.ok.mod.kin mt.kp (thn (ha.run pos pins s1 σ H1 _ I1 q) fun us s2 ⟨vs, H2, I2, rv, q2⟩ => ⟨I2.kIn, ?_⟩) hst hpl)
  exact run_fnS (E := fun σ => WE W σ) (us := .ref a :: us) (vs := .ref a :: vs) ok hr b (passAt tk σ) I2 (.cons rfl rv) q2
theorem pe_calE (c : CalE X.prog X.w X.K X.mg X.base x k ps sp) (tk : Takes X W) (hr : Room k X.A) (ha : PA X (e :: es) t) (hg : Gl X x := by rfl) (hdb : (x == ("__debug__" : Str)) = false := by decide)
    (he : starEach (e :: es) X.env = (false, eval e X.env) :: starEach es X.env := by rfl) (hpl : (backTo pos (starEach es X.env)).any (·.1) = false := by rfl) : PE X (.Call (.Name x p) (e :: es) [] pos) (tCallS sp (fun σ => WE W σ) t) := by
  obtain ⟨f, fd, ok, g, kp, b⟩ := c.ex
  exact pe_callS ok hr hg g kp b (fun σ => passAt tk σ) ha hdb he hpl (p := p)
end
/-! ### xs.count(x) of texts -/
section
variable {X : Cx}
def rCntS (K : PySem.W.Frag) : V → List V → Hp → VK → Prop := fun x xs H Q => ∃ (p : Addr) (ns : List Str) (z : Str), x = .ref p ∧ xs = [.str z] ∧ SqL K H p (ns.map V.str) ∧ Q (.int (ns.count z : Nat)) H
theorem plain_strs : ∀ ns : List Str, PyData.plainAll (ns.map PyData.str) = true
  | [] => rfl
  | n :: ns => by
    show (PyData.plain (PyData.str n) && PyData.plainAll (ns.map PyData.str)) = true
    rw [plain_strs ns]
    rfl
theorem depth_strs : ∀ ns : List Str, PyData.depthAll (ns.map PyData.str) ≤ 1
  | [] => Nat.zero_le 1
  | n :: ns => by
    show max (PyData.depth (PyData.str n)) (PyData.depthAll (ns.map PyData.str)) ≤ 1
    exact Nat.max_le.mpr ⟨by show 0 ≤ 1; omega, depth_strs ns⟩
theorem cnt_strs (z : Str) : ∀ ns : List Str, (ns.map PyData.str).countP (fun y => PyData.eqv y (.str z)) = ns.count z
  | [] => rfl
  | n :: ns => by
    rw [List.map_cons, List.countP_cons, List.count_cons, cnt_strs z ns]
    rfl
theorem mt_lcountS (hu : X.A.units + 65 < cLine) : MtR X "list.count" (rCntS X.K) := by
  intro pins s σ H x xs v us Q I rx rxs h
  obtain ⟨p, ns, z, rfl, rfl, hs, q⟩ := h
  cases rx
  obtain ⟨u, rfl, ru⟩ := rxs.one
  obtain ⟨t, rfl⟩ := ru
  obtain ⟨its, rv, pl, _⟩ := I.list hs
  obtain ⟨as, ra⟩ := Dp.readsAll I _ _ its (dp_strs ns) rv
  refine SeqAt.count_list_data pl.isList (by simpa using ra) (Reads.str z t) (plain_strs ns) rfl ?_ ?_
  · have := depth_strs ns
    have := Nat.min_le_left (PyData.depthAll (ns.map PyData.str)) (PyData.depth (.str z))
    omega
  · rw [cnt_strs]
    exact ⟨.int (ns.count z : Nat), H, I.tok _, ⟨s.toks, rfl⟩, q⟩
end
end Px
set_option maxHeartbeats 4000000
/-! t * k for any k from 0 on, t a tuple with items. -/
namespace Px
open PySem PySem.Spec PyProof.Rows L2 Bx TL Dx Zx Ow
theorem mul_one (l : Addr) (its : Array Value) (n : Nat) (dd : Option Addr) (sl : Array (Option Value)) (u : Tok) :
    Meets (Builtin.«tuple.__mul__» ⟨[.ref l, .int 1 u], []⟩) (fun _ R s => s.heap.get? l = some { cls := .type "tuple", dict := dd, data := .seq its n, slots := sl } ∧ R (.ok (.ret (.ref l))) s) :=
  .of_wp fun prog w A R s h => by
    obtain ⟨hp, g, d, tk, os⟩ := s
    obtain ⟨hl, h⟩ := h
    have f1 := AutoSeq1.idx_int
    have c1 : (its.isEmpty || (1 : Int) == 1) = true := by rw [show ((1 : Int) == 1) = true from rfl, Bool.or_true]
    wp_walk using wpAny_loadPart' hl
    repeat (first
      | (refine wpAny_ite_true (decide_eq_true c1) ?_; wp_walk using wpAny_loadPart' hl)
      | (refine wpAny_ite_false (by decide) ?_; wp_walk using wpAny_loadPart' hl))
    exact ⟨_, rfl, h⟩
theorem mul_nil (l : Addr) (its : Array Value) (n : Nat) (dd : Option Addr) (sl : Array (Option Value)) (u : Tok) (hi : its.isEmpty = false) :
    Meets (Builtin.«tuple.__mul__» ⟨[.ref l, .int 0 u], []⟩) (fun _ R s => s.heap.get? l = some { cls := .type "tuple", dict := dd, data := .seq its n, slots := sl } ∧
      R (.ok (.ret (Value.ref s.heap.objs.size))) { s with heap := s.heap.push { cls := Value.type "tuple", data := Data.seq #[] }, toks := s.toks }) :=
  .of_wp fun prog w A R s h => by
    obtain ⟨hp, g, d, tk, os⟩ := s
    obtain ⟨hl, h⟩ := h
    have f1 := AutoSeq1.idx_int
    have c1 : (its.isEmpty || (0 : Int) == 1) = false := by rw [hi]; rfl
    wp_walk using wpAny_loadPart' hl
    repeat (first
      | (refine wpAny_ite_false (decide_eq_false (by rw [c1]; exact Bool.false_ne_true)) ?_; wp_walk using wpAny_loadPart' hl)
      | (refine wpAny_ite_true (by decide) ?_; wp_walk using wpAny_loadPart' hl)
      | (refine wpAny_ite_false (by decide) ?_; wp_walk using wpAny_loadPart' hl))
    exact ⟨_, rfl, h⟩
def rRepA (K : PySem.W.Frag) : R2 := fun x y H Q => ∃ (l : Addr) (k : Nat) (xs : List V), x = .ref l ∧ y = .int (k : Int) ∧ SqT K H l xs ∧ xs ≠ [] ∧ k ≤ 1000 ∧ xs.length ≤ 1000 ∧ (k = 1 → Q (.ref l) H) ∧ (k ≠ 1 → ∀ p, H p = none → Q (.ref p) (upd H p (.tup (List.replicate k xs).flatten)))
theorem op_repA {X : Cx} : OpR X (binaryOp .Mult) (rRepA X.K) := by
  intro pins s σ H x y v u Q I rx ry h
  obtain ⟨l, k, xs, rfl, rfl, hT, hne, hk, hx, q1, q2⟩ := h
  by_cases h2 : 2 ≤ k
  · exact op_repT pins s σ H _ _ v u Q I rx ry ⟨l, (k : Int), xs, rfl, rfl, hT, hne, by omega, by omega, hx, fun p np => q2 (by omega) p np⟩
  · cases rx
    obtain ⟨t, rfl⟩ := ry
    obtain ⟨its, rv, ⟨⟨cls, dd, data, sl⟩, ho, hc, n, hd⟩, hsz⟩ := I.tuple hT
    simp only at hc hd
    subst hc hd
    have hi : its.toArray.isEmpty = false := by
      cases its with
      | nil =>
        cases rv
        exact absurd rfl hne
      | cons a b => rfl
    have hT2 : s.TypeIs (.ref l) "tuple" := ⟨_, ho, rfl⟩
    have go : ∀ {Z : Value → Shared → Prop} {D : Value → Shared → Prop}, wpAny (model X.prog X.w) X.A (call (.builtin "tuple.__mul__") [.ref l, .int (k : Int) t]) Z D s → wpAny (model X.prog X.w) X.A (binaryOp .Mult (.ref l) (.int (k : Int) t)) Z D s := fun {Z D} z =>
      wpAny_binaryOp_repeat_ref (T := "tuple") (U := "int") (by decide) hT2 (fun z => typeIs_int z (k : Int) t) noFill_tuple_mul F.fills_int_mul F.slot_int_rmul repeat_tuple F.slot_int_index.lookup
        (call_meets F.slot_int_rmul (typeIs_int s (k : Int) t) F.entry_int_rmul (F.args_int_rmul_2 _ _) (int_rmul_tuple (k : Int) t l its.toArray n dd sl) ⟨ho, rfl, hT2, z⟩)
    refine go ?_
    rcases (show k = 0 ∨ k = 1 by omega) with rfl | rfl
    · refine call_meets F.slot_tuple_mul hT2 F.entry_tuple_mul (F.args_tuple_mul_2 _ _) (mul_nil l its.toArray n dd sl t hi) ⟨ho, ?_⟩
      exact ⟨.ref s.heap.objs.size, _, I.laid (t' := s.toks) (o := .tup []) (fun b ob q => Heap.get?_push_of_some _ q) (Nat.le_refl _) ⟨Nat.zero_le _, [], .nil, IsTup.new _ _⟩, rfl, q2 (by omega) _ (I.hok.fresh (Nat.le_refl _))⟩
    · exact call_meets F.slot_tuple_mul hT2 F.entry_tuple_mul (F.args_tuple_mul_2 _ _) (mul_one l its.toArray n dd sl t) ⟨ho, .ref l, H, I, rfl, q1 rfl⟩
end Px
/-! try with several clauses, each of which names the error by the same name. -/
namespace Px
open PySem PySem.Spec PyProof.Rows L2 Bx TL Dx Zx Ow
abbrev Cl := Value × (Addr → Value → Option Addr → TS)
/-- the ends of a suite behind which slot i is taken away -/
def gone (i : Nat) (D : Ends) : Ends := { nx := fun σ H => D.nx (σ.set i none) H, rt := D.rt, bk := fun σ H => D.bk (σ.set i none) H, ct := fun σ H => D.ct (σ.set i none) H }
def wAsM (K : PySem.W.Frag) (i : Nat) (W0 : WX) (D : Ends) : List Cl → WX
  | [] => W0
  | c :: r => fun cls d σ H => ∃ b, PySem.W.exmOne K cls c.1 = some b ∧ (b = true → ∀ a, H a = none → c.2 a cls d (gone i D) (σ.set i (some (.ref a))) H) ∧ (b = false → wAsM K i W0 D r cls d σ H)
inductive HdA (X : Cx) (n : Str) : List ExceptHandler → List Cl → Prop
  | nil : HdA X n [] []
  | cons {x : Str} {c : Cl} {b0 : Stmt} {bs : List Stmt} {p1 p2 : Pos} {hs : List ExceptHandler} {l : List Cl} (nm : Names X x c.1)
      (su : ∀ (a : Addr) (o : Obj) (cls : Value) (d : Option Addr) (pn : List (Addr × Obj)), Zc cls d o → (∃ vs, o.data = .fields vs) → PSs (X.suite a ((a, o) :: pn)) (b0 :: bs) (c.2 a cls d)) (r : HdA X n hs l) :
      HdA X n (.ExceptHandler (some (.Name x p1)) (some n) (b0 :: bs) p2 :: hs) (c :: l)
section
variable {X : Cx} {n : Str} {i : Nat} {body : List Stmt} {h0 : ExceptHandler} {hs : List ExceptHandler} {l : List Cl} {pos : Pos} {tb : WX → TS} {W0 : WX}
theorem ps_tryA (hst : X.stack = X.env :: X.outer) (hfr : X.env.frame = some X.env.locals) (nd : X.N.Nodup) (hi : X.N[i]? = some n) (loc : X.env.kindOf n = some .local) (tk : Takes X W0)
    (hb : ∀ (W : WX) (pn : List (Addr × Obj)) (xe : Value → Shared → Prop), Takes (X.tr pn xe) W → PassesOwn (model X.prog X.w) X.A X.env xe → PSs (X.tr pn xe) body (tb W)) (hh : HdA X n (h0 :: hs) l) :
    PS X (.Try body (h0 :: hs) [] [] pos) (fun D σ H => tb (wAsM X.K i W0 D l) D σ H) := by
  refine ⟨fun pins s σ H D I h => wpAny_Try_except ?_⟩
  have ok := I.ok
  have fr2 : X.A.frames = some (X.env :: X.outer) := by rw [ok.frames, hst]
  refine wpAny_mono ((hb (wAsM X.K i W0 D l) (X.pn ++ pins) (fun e t1 => wpAny (model X.prog X.w) X.A (noteFrame e X.env) (fun _ t2 => wpAny (model X.prog X.w) X.A (setFlight e none) (fun _ t3 => wpAny (model X.prog X.w) X.A (handleBy e X.env (h0 :: hs)) (SP X pins D) X.xe t3) X.xe t2) X.xe t1)
    (fun er s' got => ?_) PassesOwn.looking).run [] s σ H D (I.toTry _) h) (fun fl s1 hsp => ?_) (fun er s1 he => he)
  · obtain ⟨a, B, sI, pins2, τ, G, cls, d, rfl, J0, nb, up, sky, na, os, ag, wish⟩ := got
    have J : Inv X pins τ G sI := J0.ofTry ok
    have sk2 : Sky B (X.env :: X.outer) a (Zc cls d) X.env.locals s'.heap := by rw [← hst]; exact sky
    show wpAny (model X.prog X.w) X.A (noteFrame (.ref a) X.env) _ _ _
    refine Sky.land Zc.steady fr2 hfr sk2 fun h3 fl3 up3 => ?_
    have J3 : Inv X pins τ G { s' with heap := h3 } := J.landed nb fl3.1 (up.trans up3) os ag
    obtain ⟨o3, v3, ho3, hz3, hd3⟩ := fl3.there
    have out : a ∉ frs (X.env :: X.outer) := fun hm => by
      obtain ⟨_, o2, ho2, no⟩ := fl3.2.2.1.mem hm
      rw [ho3] at ho2
      cases ho2
      exact no _ hd3
    have nL : a ≠ X.env.locals := fun z => out (List.mem_filterMap.mpr ⟨X.env, List.mem_cons_self, hfr.trans (congrArg some z.symm)⟩)
    have nF : a ∉ X.fs := fun hm => by
      obtain ⟨e, he, q⟩ := List.mem_filterMap.mp hm
      exact out (List.mem_filterMap.mpr ⟨e, List.mem_cons_of_mem _ he, q⟩)
    have S3 := J3.suite ho3 hd3 na nL nF
    have go : ∀ {hs2 : List ExceptHandler} {l2 : List Cl}, HdA X n hs2 l2 → wAsM X.K i W0 D l2 cls d τ G → wpAny (model X.prog X.w) X.A (handleBy (.ref a) X.env hs2) (SP X pins D) X.xe { s' with heap := h3 } := by
      intro hs2 l2 hk
      induction hk with
      | nil =>
        intro wish
        refine wpAny_handleBy_nil ?_
        obtain ⟨_, _, _, o4, v4, T, _, _, ho4, _, hd4, hT, _⟩ := id fl3
        unfold PySem.passOn
        refine wpAny_bind (wpAny_field ho4 hd4 hT ?_)
        rw [if_neg (show ¬ ((Value.ref T == Value.none) = true) from Bool.false_ne_true)]
        have last : wpAny (model X.prog X.w) X.A (setFlight (.ref a) X.env.frame) (fun _ t => wpAny (model X.prog X.w) X.A (throw (.ref a) : Sem Flow) (SP X pins D) X.xe t) X.xe { s' with heap := h3 } := by
          rw [hfr]
          refine HandSPX.setFlight_upZ fl3 fun h4 hh4 up4 => wpAny_throw (tk _ _ ⟨a, B, sI, pins, τ, G, cls, d, rfl, J, nb, (up.trans up3).trans up4, .inr (.inr ?_), na, os, ag, wish⟩)
          rw [hst]
          exact hh4
        first
          | exact wpAny_bind (wpAny_pure (wpAny_bind last))
          | exact wpAny_bind last
      | @cons x c b0 bs p1 p2 hs3 l3 nm su r ih =>
        intro wish
        obtain ⟨b, eb, yes, no⟩ := wish
        refine wpAny_handleBy_cons (codeAny_handlers_test ?_) (by intro q; cases q)
        have LT : PySem.W.Looks (model X.prog X.w) h3 (typeOf (.ref a)) cls := fun A Q E t k q => wpAny_typeOf_ref (k _ _ ho3) (by rw [hz3.1]; exact q)
        have LM := PySem.W.exm_one (M := model X.prog X.w) J3.kIn LT eb
        have look : ∀ {Q : Value → Shared → Prop} {E : Value → Shared → Prop}, Q c.1 { s' with heap := h3 } → wpAny (model X.prog X.w) (X.A.mark (some (.ref a))) (eval (.Name x p1) X.env) Q E { s' with heap := h3 } := fun {Q E} q => by
          obtain ⟨hg, hdb, hm | ⟨hm, hv, hnn⟩⟩ := nm
          · exact ld_glob (X := X.suite a ((a, o3) :: (X.pn ++ pins))) S3 hg hm q hdb
          · exact ld_blt (X := X.suite a ((a, o3) :: (X.pn ++ pins))) S3 hg hm hv q hnn hdb
        refine look (LM.here ?_)
        cases b with
        | false =>
          show wpAny _ X.A (handleBy (.ref a) X.env hs3) _ _ _
          exact ih (no rfl)
        | true =>
          refine codeAny_handlers_suite_as (HandSPX.lands_againZ fl3 fun h4 fl4 up4 => ?_)
          have J4 : Inv X pins τ G { s' with heap := h4 } := J.landed nb fl4.1 ((up.trans up3).trans up4) os ag
          obtain ⟨o4, v4, ho4, hz4, hd4⟩ := fl4.there
          refine store_ok (X := X.suite a ((a, o4) :: (X.pn ++ pins))) (v := .ref a) (J4.suite ho4 hd4 na nL nF) nd hi (.inl loc) rfl (fun s5 S5 => ?_) (.inr loc)
          refine wpAny_mono ((su a o4 cls d (X.pn ++ pins) hz4 ⟨_, hd4⟩).run [] s5 _ G _ S5 (yes rfl a na)) (fun fl s6 hsp => ?_) (fun _ _ z => False.elim z)
          have out6 : ∀ {ρ : L2.St} {H6 : Hp} {Q : Shared → Prop}, Inv (X.suite a ((a, o4) :: (X.pn ++ pins))) [] ρ H6 s6 → (∀ s7, Inv X pins (ρ.set i none) H6 s7 → Q s7) → wpAny (model X.prog X.w) X.A (do bindName X.env n .none; unbindBehindTheSuite X.env n p2) (fun _ s7 => Q s7) X.xe s6 :=
            fun S6 hq => gone_ok (S6.unsuite ok) nd hi loc hq
          match fl, hsp with
          | .next, ⟨ρ, H6, S6, q⟩ => exact out6 S6 fun s7 J7 => ⟨_, _, J7, q⟩
          | .brk, ⟨ρ, H6, S6, q⟩ => exact out6 S6 fun s7 J7 => ⟨_, _, J7, q⟩
          | .cont, ⟨ρ, H6, S6, q⟩ => exact out6 S6 fun s7 J7 => ⟨_, _, J7, q⟩
          | .ret u, ⟨v6, ρ, H6, S6, r6, q⟩ => exact out6 S6 fun s7 J7 => ⟨_, _, _, J7, r6, q⟩
    exact go hh wish
  · match fl, hsp with
    | .next, ⟨ρ, G, J, q⟩ => exact wpAny_execs_nil ⟨ρ, G, J.ofTry ok, q⟩
    | .brk, ⟨ρ, G, J, q⟩ => exact ⟨ρ, G, J.ofTry ok, q⟩
    | .cont, ⟨ρ, G, J, q⟩ => exact ⟨ρ, G, J.ofTry ok, q⟩
    | .ret u, ⟨v, ρ, G, J, rv, q⟩ => exact ⟨v, ρ, G, J.ofTry ok, rv, q⟩
end
end Px
/-! list(o), o of an own class with `__iter__` over a tuple and `__len__`. -/
namespace Px
open PySem PySem.Spec PyProof.Rows L2 Bx TL Dx Zx Ow
section
variable {X : Cx} {pins : List (Addr × Obj)} {σ : L2.St} {H : Hp} {s : Shared} {C p dx : Addr} {fs : List (Str × V)} {k : Nat} {ps : List Str} {sp : Sp} {A1 : Around} {E1 : Value → Shared → Prop}
theorem len_at {Q : Value → Shared → Prop} (sb : Sub X (k + 1) A1) (c : OwM X.prog X.w X.K X.mg X.base CX0 C "__len__" k ps sp) (I : Inv X pins σ H s) (ha : H p = some (.ins C dx fs)) (hsp : sp [.ref p] H (fun v G => G = H ∧ ∃ n : Nat, v = .int (n : Int) ∧ n ≤ 1000) E0)
    (q : ∀ (n : Nat) t s', n ≤ 1000 → Inv X pins σ H s' → Q (.int (n : Int) t) s') : wpAny (model X.prog X.w) A1 (call (.builtin "len") [.ref p]) Q E1 s := by
  obtain ⟨f, fd, ok, hs, hf, _, hb⟩ := c.ex
  obtain ⟨od, J⟩ := inst_of I ha
  obtain ⟨m, hF⟩ := I.fr
  refine PySem.W.len_K hF I.ok.mod.kin J hs hf ?_
  refine wpAny_mono (call_at sb.in1 ok hb I (vs := [.ref p]) (.cons rfl .nil) hsp (fun e s' z => z.elim)) (fun u s' hu => ?_) (fun _ _ z => z)
  obtain ⟨v, G, I', rv, rfl, n, rfl, hn⟩ := hu
  obtain ⟨t, rfl⟩ := rv
  exact ⟨⟨by omega, by omega⟩, q n _ _ hn (I'.tok _)⟩
theorem hint_own {Q : Bool → Shared → Prop} (sb : Sub X (k + 1) A1) (c : OwM X.prog X.w X.K X.mg X.base CX0 C "__len__" k ps sp) (I : Inv X pins σ H s) (ha : H p = some (.ins C dx fs)) (hsp : sp [.ref p] H (fun v G => G = H ∧ ∃ n : Nat, v = .int (n : Int) ∧ n ≤ 1000) E0)
    (q : ∀ b s', Inv X pins σ H s' → Q b s') : wpAny (model X.prog X.w) A1 (Builtin.List.listLengthHint (.ref p)) Q E1 s := by
  obtain ⟨f, fd, ok, hs, hf, _, hb⟩ := id c.ex
  obtain ⟨od, J⟩ := inst_of I ha
  unfold Builtin.List.listLengthHint
  refine wpAny_bind (wpAny_bind (J.type.here ((PySem.W.looks_findIn I.kIn hs).here ?_)))
  refine PySem.W.KFB.if_not rfl ?_
  show wpAny _ _ (rule _ >>= _) _ _ _
  refine wpAny_bind (wpAny_rule ?_)
  refine wpAny_bind (wpAny_attempt (len_at sb c I ha hsp fun n t s' hn I' => ?_))
  show wpAny _ _ (asInt? (Value.int (n : Int) t) >>= _) _ _ _
  refine wpAny_bind (wpAny_pure ?_)
  refine PySem.W.KFB.if_not ?_ (wpAny_pure (q _ s' I'))
  show decide ((n : Int).toNat > sizeLine) = false
  rw [sizeLine_eq]
  exact decide_eq_false (by omega)
/-- the iterator of o, where `__iter__` gives iter(self.f) -/
theorem iter_at {f : Str} {t : Addr} {zs : List V} {Q : Value → Shared → Prop} (sb : Sub X k A1) (c : ItM X.prog X.w X.K X.mg X.base C f k) (I : Inv X pins σ H s) (ha : H p = some (.ins C dx fs)) (hl : fs.lookup f = some (.ref t)) (hz : SqT X.K H t zs)
    (q : ∀ it s', Inv X pins σ H s' → s'.heap.IsTupleIter it t 0 → FpOk X pins H it → Q (.ref it) s') : wpAny (model X.prog X.w) A1 (pyIter (.ref p)) Q E1 s := by
  obtain ⟨fi, hfi, hf, go⟩ := c.ex
  obtain ⟨od, J⟩ := inst_of I ha
  obtain ⟨m, hF⟩ := I.fr
  refine PySem.W.owit_iter hF I.ok.mod.kin J hfi hf ?_
  have z0 := I.env0
  have e0 : Env0 X.prog X.w X.K X.mg X.base A1 X.stack s H := ⟨by rw [sb.fr]; exact z0.frames, z0.mod, z0.bs, z0.bsz, z0.funs, z0.frf, z0.hok, z0.bare⟩
  refine wpAny_call (codeAny_mono (go A1 X.stack s H E0 p dx t fs zs sb.room e0 ha hl hz) fun res s' back => ?_)
  match res, back with
  | .error e, back => exact back.elim
  | .ok .next, back => exact back.elim
  | .ok .brk, back => exact back.elim
  | .ok .cont, back => exact back.elim
  | .ok (.ret u), back =>
    obtain ⟨v, G, I2, rv, it, rfl, n1, hy, rfl⟩ := I.after back
    cases rv
    have e2 : upd H it (TiO t it) it = some (TiO t it) := upd_same
    have hit : s'.heap.IsTupleIter it t 0 := by
      have : ObjOk X.prog X.w (upd H it (TiO t it)) s'.heap it (.ext fun h => h.IsTupleIter it t 0) := I2.hok it _ e2
      exact this.1
    show wpAny _ _ (specialOf (.ref it) "__next__") _ _ _
    refine wpAny_specialOf (name := Str.ofString "__next__") hit.typeIs PySem.F.slot_tuple_iterator_next.lookup ?_
    have I3 := ItX.inv_drop I2 e2
    have fp := ItX.inv_fp I2 e2 (Nat.le_trans I.sz hy)
    rw [ItX.dropH_upd n1] at I3 fp
    exact q it s' I3 hit fp
theorem ext_loop {L it t : Addr} {zs : List V} {Rs : Result → Shared → Prop} (hc : X.calm = true) (hL : H L = some (.lst [])) (hz : SqT X.K H t zs) (hzl : zs.length ≤ 1000) (fp : FpOk X pins H it)
    (done : ∀ s', Inv X pins σ (upd H L (.lst zs)) s' → Rs (.ok (.ret .none)) s') :
    ∀ (m i : Nat) (s : Shared), zs.length - i = m → i ≤ zs.length → Inv X pins σ (upd H L (.lst (zs.take i))) s → s.heap.IsTupleIter it t i → codeAny (model X.prog X.w) X.A.in1 (.builtin "list.extend.loop" ⟨[.ref L, .ref it, .none], []⟩) Rs s := by
  have hzi : ∀ ys, SqT X.K (upd H L (.lst ys)) t zs := fun ys => by
    rcases hz with (h | ⟨u, h⟩) | h
    · exact .inl (.inl (by rw [upd_ne fun z => by rw [z, hL] at h; cases h]; exact h))
    · exact .inl (.inr ⟨u, by rw [upd_ne fun z => by rw [z, hL] at h; cases h]; exact h⟩)
    · exact .inr h
  have hit : it ≠ L := fun z => by
    have := fp.1
    rw [z, hL] at this
    cases this
  have fpi : ∀ ys, FpOk X pins (upd H L (.lst ys)) it := fun ys => ⟨by rw [upd_ne hit]; exact fp.1, fp.2⟩
  intro m
  induction m with
  | zero =>
    intro i s hm hi I st
    have e : i = zs.length := by omega
    subst e
    obtain ⟨its, rv, pt, _⟩ := I.tuple (hzi _)
    obtain ⟨f0, f1, f2, f3, f4, f5⟩ := fpi (zs.take zs.length)
    have hl := rv.length
    refine codeAny_builtin PySem.F.entry_extend_loop ?_
    rw [Around.under_plainId PySem.F.plain_extend_loop _]
    show wpAny _ X.A.in1.in1 (pyNext (.ref it) >>= _) _ _ s
    refine wpAny_bind (wpAny_pyNext_tuple_end (I.ok.hd hc) st (show s.heap.IsTuple t its.toArray from pt) (by simp; omega) fun h' eb => ?_)
    have I1 : Inv X pins σ (upd H L (.lst (zs.take zs.length))) { s with heap := h' } := I.turned (t' := s.toks) (fun b o hb e => eb b o hb e) f0 f1 f3 f4 f5
    rw [List.take_length] at I1
    exact wpAny_pure (done _ I1)
  | succ m ih =>
    intro i s hm hi I st
    have hlt : i < zs.length := by omega
    obtain ⟨its, rv, pt, _⟩ := I.tuple (hzi _)
    obtain ⟨u, hu, ru⟩ := rv.get (List.getElem?_eq_getElem hlt)
    obtain ⟨f0, f1, f2, f3, f4, f5⟩ := fpi (zs.take i)
    refine codeAny_builtin PySem.F.entry_extend_loop ?_
    rw [Around.under_plainId PySem.F.plain_extend_loop _]
    show wpAny _ X.A.in1.in1 (pyNext (.ref it) >>= _) _ _ s
    refine wpAny_bind (wpAny_pyNext_tuple_item st (show s.heap.IsTuple t its.toArray from pt) (x := u) (by simpa using hu) fun h' st' sb => ?_)
    have I1 : Inv X pins σ (upd H L (.lst (zs.take i))) { s with heap := h' } := I.turned (t' := s.toks) (fun b o hb e => (sb.2 b hb).trans e) f0 f1 f3 f4 f5
    obtain ⟨z, js, c, rj, hjl, ej⟩ := I1.lstM upd_same
    have tl : (zs.take i).length = i := by rw [List.length_take]; omega
    have jl : js.length = i := by rw [← rj.length, tl]
    show wpAny _ X.A.in1.in1 (updateSeq L (·.push u) >>= _) _ _ _
    have I2 := I1.lset (f := (·.push u)) (its := js) (its' := js ++ [u]) (ys := zs.take (i + 1)) (t' := s.toks) upd_same ej (by simp) (by rw [List.take_add_one, List.getElem?_eq_getElem hlt]; exact rj.append (.cons ru .nil)) (by rw [List.length_take, sizeLine_eq]; omega)
    rw [upd_upd] at I2
    refine wpAny_bind (wpAny_updateSeq ej rfl (wpAny_pure ⟨plainId_quiet PySem.F.plain_extend_loop _, ih (i + 1) _ (by omega) hlt I2 ?_⟩) (by rw [List.size_toArray, jl, sizeLine_eq]; omega) (by show (js.toArray.push u).size ≤ sizeLine + 1; rw [Array.size_push, List.size_toArray, jl, sizeLine_eq]; omega))
    exact st'.at fun o e => (Heap.get?_update_other _ _ (Ne.symm hit)).trans e
def rListO (K : PySem.W.Frag) (C : Addr) (f : Str) (sp : Sp) : List V → Hp → VK → Prop := fun xs H Q => ∃ (p dx t : Addr) (fs : List (Str × V)) (zs : List V), xs = [.ref p] ∧ H p = some (.ins C dx fs) ∧ fs.lookup f = some (.ref t) ∧ SqT K H t zs ∧ zs.length ≤ 1000 ∧
  (∀ G, (∀ b o, H b = some o → G b = some o) → sp [.ref p] G (fun v G' => G' = G ∧ ∃ n : Nat, v = .int (n : Int) ∧ n ≤ 1000) E0) ∧ ∀ q, H q = none → Q (.ref q) (upd H q (.lst zs))
theorem call_listO {f : Str} (hc : X.calm = true) (ci : ItM X.prog X.w X.K X.mg X.base C f k) (cl : OwM X.prog X.w X.K X.mg X.base CX0 C "__len__" k ps sp) (hr : Room (k + 3) X.A) : CallR X (.type "list") (rListO X.K C f sp) := by
  intro pins s σ H xs us Q I rv h
  obtain ⟨p, dx, t, fs, zs, rfl, hp, hl, hz, hzl, hsp, q⟩ := h
  obtain ⟨u, rfl, ru⟩ := rv.one
  cases ru
  have sb : Sub X (k + 1) X.A.in1.in1 := Sub.in1 (Sub.in1 (sub_self hr))
  refine callType_codes (Q₁ := fun obj s1 => obj = .ref s.heap.objs.size ∧ s1 = { s with heap := s.heap.push { cls := .type "list", data := .seq #[] } }) PySem.F.called_list (PySem.F.typeCall_list_1 _) PySem.F.entry_list_init (code_list_new _ ⟨rfl, rfl⟩) fun obj s1 h1 => ?_
  obtain ⟨rfl, rfl⟩ := h1
  have hS : (s.heap.push { cls := .type "list", data := .seq #[] }).get? s.heap.objs.size = some { cls := .type "list", data := .seq #[] } := Heap.get?_push_size _ rfl
  refine ⟨⟨_, hS, rfl⟩, PySem.F.args_list_init_2 _ _, ?_⟩
  have fr : H s.heap.objs.size = none := I.hok.fresh (Nat.le_refl _)
  have I1 : Inv X pins σ (upd H s.heap.objs.size (.lst [])) { s with heap := s.heap.push { cls := .type "list", data := .seq #[] } } := I.lnew (its := []) (t' := s.toks) .nil (Nat.zero_le _)
  have q2 := q _ fr
  have sm : Same H (upd H s.heap.objs.size (.lst [])) := same_new fr
  generalize hLd : s.heap.objs.size = L at hS fr I1 q2 sm ⊢
  show wpAny _ _ (do let old ← Builtin.List.listItems (.ref L); Builtin.List.listUpdate (.ref L) (fun _ => #[]); letGo old.toList.reverse; Builtin.List.listExtendWith (.ref L) (.ref p) .none) _ _ _
  refine wpAny_bind ?_
  unfold Builtin.List.listItems
  refine wpAny_bind (wpAny_seqItems hS rfl (wpAny_pure ?_))
  show wpAny _ _ (updateSeq L (fun _ => #[]) >>= fun _ => letGo (#[] : Array Value).toList.reverse >>= fun _ => Builtin.List.listExtendWith (.ref L) (.ref p) .none) _ _ _
  refine wpAny_bind (wpAny_updateSeq hS rfl ?_)
  have I2 := I1.lset (f := fun _ => #[]) (its := []) (its' := []) (ys := []) (t' := s.toks) upd_same hS rfl .nil (Nat.zero_le _)
  rw [upd_upd] at I2
  refine wpAny_bind (wpAny_letGo ?_)
  have hp2 := sm _ _ hp
  have hz2 := Bx.Same.tup sm hz
  have hsp2 := hsp _ sm
  have hL2 : upd H L (.lst []) L = some (.lst []) := upd_same
  have hne : L ≠ p := fun z => by rw [← z, fr] at hp; cases hp
  have fin : ∀ s', Inv X pins σ (upd (upd H L (.lst [])) L (.lst zs)) s' → EP X pins σ Q (.ref L) s' := fun s' I' => by
    rw [upd_upd] at I'
    exact ⟨.ref L, _, I', rfl, q2⟩
  clear q2 q hsp I1 I hS
  obtain ⟨mA, J, _⟩ := ins_get I2.hok hp2
  obtain ⟨od, J, _⟩ := J.look
  unfold Builtin.List.listExtendWith
  refine wpAny_bind (J.type.here ?_)
  have e1 : Builtin.List.listSameRef (.ref L) (.ref p) = false := by simp [Builtin.List.listSameRef, hne]
  have e2 : (Value.ref C == Value.type "list") = false := rfl
  have e3 : (Value.ref C == Value.type "tuple") = false := rfl
  simp only [e1, e2, e3, Bool.or_false, Bool.false_eq_true, if_false]
  refine wpAny_bind (iter_at (sb.mono (Nat.le_succ _)) ci I2 hp2 hl hz2 fun it s2 I3 hit fp => ?_)
  obtain ⟨oi, hoi, hci, hdi⟩ := id hit
  have Ip := I3.pinned (fp := [it]) (fun b hb => by rw [List.mem_singleton.mp hb]; exact fp) (fun b hb => by rw [List.mem_singleton.mp hb]; exact ⟨oi, hoi, fun v z => by rw [hdi] at z; cases z⟩)
  refine wpAny_bind (wpAny_holding (hint_own sb cl Ip hp2 hsp2 fun b s3 I4 => ?_))
  have hit3 : s3.heap.IsTupleIter it t 0 := hit.at fun o e => (I4.pin (it, o) (List.mem_append_right _ (List.mem_append_right _ (mem_pinsAt List.mem_cons_self e)))).1
  have I5 := I4.unpinned
  have run : ∀ s5, Inv X pins σ (upd (upd H L (.lst [])) L (.lst (zs.take 0))) s5 → s5.heap.IsTupleIter it t 0 → codeAny (model X.prog X.w) X.A.in1 (.builtin "list.extend.loop" ⟨[.ref L, .ref it, .none], []⟩) (wants (fun r s6 => r = .none ∧ EP X pins σ Q (.ref L) s6) X.xe) s5 := fun s5 J5 st5 =>
    ext_loop hc hL2 hz2 hzl fp (fun s6 J6 => ⟨rfl, fin s6 J6⟩) _ 0 s5 rfl (Nat.zero_le _) J5 st5
  have hH : upd (upd H L (.lst [])) L (.lst (zs.take 0)) = upd H L (.lst []) := upd_upd
  rw [hH] at run
  have hneL : it ≠ L := fun z => by
    have := fp.1
    rw [z, hL2] at this
    cases this
  refine wpAny_ite_split (fun _ => wpAny_bind (wpAny_rule (wpAny_bind ?_))) (fun _ => wpAny_pure ⟨plainId_quiet PySem.F.plain_extend_loop _, run s3 I5 hit3⟩)
  obtain ⟨z1, j1, c1, r1, l1, w1⟩ := I5.lstM hL2
  cases r1
  show wpAny _ _ (updateSeq L (·.push .none) >>= fun _ => updateSeq L (·.pop)) _ _ s3
  have K1 := I5.lset (f := (·.push Value.none)) (its' := [Value.none]) (ys := [.non]) (t' := s3.toks) hL2 w1 (by simp) (.cons rfl .nil) (by rw [sizeLine_eq]; decide)
  refine wpAny_bind (wpAny_updateSeq w1 rfl ?_)
  obtain ⟨z2, j2, c2, r2, l2, w2⟩ := K1.lstM upd_same
  obtain ⟨u2, rfl, _⟩ := r2.one
  have K2 := K1.lset (f := (·.pop)) (its := [u2]) (its' := []) (ys := []) (t' := s3.toks) upd_same w2 rfl .nil (Nat.zero_le _)
  rw [upd_upd, upd_upd] at K2
  refine wpAny_updateSeq w2 rfl (wpAny_pure ⟨plainId_quiet PySem.F.plain_extend_loop _, run _ K2 ?_⟩) (by show 1 ≤ sizeLine; rw [sizeLine_eq]; decide) (Nat.zero_le _)
  exact hit3.at fun o e => (Heap.get?_update_other _ _ (Ne.symm hneL)).trans ((Heap.get?_update_other _ _ (Ne.symm hneL)).trans e)
end
end Px
/-! o.m(..) where a method that may raise does not; C.m(..) of a classmethod. -/
namespace Px
open PySem PySem.Spec PyProof.Rows L2 Bx TL Dx Zx Ow
structure CmC (P : Program) (w : World) (K : PySem.W.Frag) (mg : Str → Option Value) (base : Heap) (C : Addr) (m : Str) (k : Nat) (sp : Sp) : Prop where
  ex : ∃ (mc : Value) (p g : Addr), ClX.CRead K C mc ∧ ClX.CMet K C mc m p g ∧ FnR P w K mg base CX0 k g sp
section
variable {X : Cx} {k : Nat} {ps : List Str} {sp : Sp} {o e : Expr} {es : List Expr} {t : TA} {apos pos : Pos} {C : Addr} {m : Str} {to : TE} {pl : Sem Bool}
theorem pe_mthN (c : MthX X.prog X.w X.K X.mg X.base C m k ps sp) (hr : Room k X.A) (ho : PE X o to) (ha : PA X (e :: es) t)
    (hst : starEach (e :: es) X.env = (false, eval e X.env) :: starEach es X.env := by rfl) (hpl : (backTo pos (starEach es X.env)).any (·.1) = false := by rfl)
    (ht : eval (.Call (.Attribute o m apos) (e :: es) [] pos) X.env = (do
      let ov ← eval o X.env
      standAt apos.atName
      let (f, first) ← holding [ov] (getMethod ov m pl)
      callWith pos f first (backTo pos (starEach (e :: es) X.env)) (backToKw pos (keywordEach [] X.env))) := by rfl) : PE X (.Call (.Attribute o m apos) (e :: es) [] pos) (tMeth C m sp [] E0 to t) := by
  obtain ⟨f, fd, cl, mt, ok, b⟩ := c.ex
  exact pe_meth (E := E0) ho cl mt ok hr b .nil passN ha hst hpl ht
theorem pe_cme (c : CmC X.prog X.w X.K X.mg X.base C m k sp) (hr : Room k X.A) (ho : PE X o to) (ha : PA X (e :: es) t)
    (hst : starEach (e :: es) X.env = (false, eval e X.env) :: starEach es X.env := by rfl) (hpl : (backTo pos (starEach es X.env)).any (·.1) = false := by rfl)
    (ht : eval (.Call (.Attribute o m apos) (e :: es) [] pos) X.env = (do
      let ov ← eval o X.env
      standAt apos.atName
      let (f, first) ← holding [ov] (getMethod ov m pl)
      callWith pos f first (backTo pos (starEach (e :: es) X.env)) (backToKw pos (keywordEach [] X.env))) := by rfl) : PE X (.Call (.Attribute o m apos) (e :: es) [] pos) (ClX.tCMeth C sp E0 to t) := by
  obtain ⟨mc, p, g, r, cm, F⟩ := c.ex
  exact ClX.pe_cmeth ho r cm F hr L2.pass0 ha hst hpl ht
/-- a property by its promise -/
structure PropC (P : Program) (w : World) (K : PySem.W.Frag) (mg : Str → Option Value) (base : Heap) (C : Addr) (m : Str) (k : Nat) (sp : Sp) : Prop where
  cl : Cls K C
  ex : ∃ (p g : Addr) (fd : FuncData), PropOf K C m p g ∧ FnOk P w K mg base CX0 k g fd ["self"] sp ∧ Binds K fd ["self"] []
theorem pe_propC {ta : TE} (c : PropC X.prog X.w X.K X.mg X.base C m k sp) (hr : Room (k + 1) X.A) (he : PE X e ta) (hab : attributeBase e m X.env (eval e X.env) = eval e X.env) : PE X (.Attribute e m pos) (tProp C sp [] E0 ta) := by
  obtain ⟨p, g, fd, hp, F, hb⟩ := c.ex
  exact pe_prop he c.cl hp F hr hb .nil L2.pass0 hab
end
end Px
/-! super().m(..) in a method of an own class, m a def of the class above: as the value of a `return .. and ..`, or in an `if not ..`. -/
namespace SupM
open PySem PySem.Spec PyProof.Rows L2 NdefX Sup Ow
section
variable {X : Cx} {pins : List (Addr × Obj)} {σ : List (Option V)} {H : Hp} {s : Shared} {self m : Str} {D a C dx g : Addr} {fs : List (Str × V)} {body : List Stmt} {p0 p1 p2 pos pos' : Pos} {e : Expr} {es : List Expr} {ta : TA} {pl : Sem Bool} {k : Nat} {sp : Sp} {Q : VK}
/-- the class above has the def g under the name m -/
structure SupA (K : PySem.W.Frag) (C D : Addr) (m : Str) (g : Addr) : Prop where
  cls : ∃ cd, PySem.W.clsIn K D = some cd
  sub : PySem.W.mroIn K C (.ref D) = some true
  sup : PySem.W.ks_superIn K C D m = some (some (.ref g))
  ty : PySem.W.typeIn K (.ref g) = some (.type "function")
  fn : PySem.W.fnIn K g = true
  nc : (m == ("__class__" : Str)) = false
theorem sup_eval (I : Inv X pins σ H s) (S : SupF X.prog X.K X.mg X.env self D) (T : SupA X.K C D m g) (F : FnR X.prog X.w X.K X.mg X.base CX0 k g sp) (hr : Room k X.A) (hN : X.N[0]? = some self) (h0 : σ[0]? = some (some (.ref a))) (ea : H a = some (.ins C dx fs)) (ha : PA X (e :: es) ta)
    (h : ta σ H fun vs H2 => sp (.ref a :: vs) H2 Q E0)
    (hev : eval (.Call (.Attribute (.Call (.Name "super" p0) [] [] p1) m p2) (e :: es) [] pos) X.env = (do
      let ov ← attributeBase (.Call (.Name "super" p0) [] [] p1) m X.env (eval (.Call (.Name "super" p0) [] [] p1) X.env)
      standAt p2.atName
      let (f, first) ← holding [ov] (getMethod ov m pl)
      callWith pos f first (backTo pos (starEach (e :: es) X.env)) []) := by rfl)
    (he : starEach (e :: es) X.env = (false, eval e X.env) :: starEach es X.env := by rfl) (hpl : (backTo pos (starEach es X.env)).any (·.1) = false := by rfl) :
    _root_.PySem.wpAt (model X.prog X.w) X.A (.func body X.env) (eval (.Call (.Attribute (.Call (.Name "super" p0) [] [] p1) m p2) (e :: es) [] pos) X.env) (EP X pins σ Q) X.xe s := by
  refine ks_wpAt_MethodCall ?_ hev
  obtain ⟨f, oc, od, fd, osl, ar, hfu, lf, hp, har⟩ := S.fn
  obtain ⟨cda, ccl, cdd, vs, ccs, file, tf, hco, lc, hvs, hfile⟩ := S.co
  obtain ⟨cc, cl, cld, csl, hcl, lcc⟩ := S.ce
  obtain ⟨mm, v, hn, hv, rv⟩ := self_at I hN h0 S.ka
  obtain rfl : v = Value.ref a := rv
  obtain ⟨oi, inst⟩ := inst_of I ea
  obtain ⟨cdD, hD⟩ := T.cls
  have XK := I.kIn
  obtain ⟨oD, hD1, hD2⟩ : ∃ oD, s.heap.get? D = some oD ∧ oD.data = .cls cdD := by
    unfold PySem.W.clsIn at hD
    split at hD
    · rename_i c d cd' sl ho
      cases hD
      exact ⟨_, XK _ _ ho, rfl⟩
    · cases hD
  refine ks_wpAt_super_base S.ks S.kc T.nc hfu (XK _ _ lf) rfl hp hco (XK _ _ lc) rfl hvs hfile S.top ?_
  refine ld_super I S ⟨rfl, ?_⟩
  refine wpAny_loadName_free I.ok.kind S.kc hcl ⟨_, XK _ _ lcc, rfl⟩ ?_
  refine wpAny_loadName_local I.ok.kind (har ▸ S.ka) hn (har ▸ hv) ?_
  refine ks_wpAny_isType_cls hD1 hD2 ⟨rfl, ?_⟩
  obtain ⟨hp0, gg, d, t, os⟩ := s
  refine ks_wpAny_call_super hD1 hD2 inst.at_ rfl (fun c e => by cases e) (PySem.W.looks_mroIn XK T.sub) fun h' eso k2 => ?_
  have I2 : Inv X pins σ H ⟨h', gg, d, t, os⟩ := I.kept (t' := t) k2
  have XK2 := I2.kIn
  have sup := T.sup
  unfold PySem.W.ks_superIn at sup
  cases hc : PySem.W.clsIn X.K C with
  | none =>
    rw [hc] at sup
    cases sup
  | some cd =>
    rw [hc] at sup
    obtain ⟨oi2, inst2⟩ := inst_of I2 ea
    obtain ⟨of, hof, hofc⟩ : ∃ of, h'.get? g = some of ∧ of.cls = .type "function" := by
      have ht' : (X.K.lookup g).map (·.cls) = some (.type "function") := T.ty
      cases z : X.K.lookup g with
      | none => rw [z] at ht'; cases ht'
      | some of => rw [z] at ht'; exact ⟨of, XK2 _ _ z, Option.some.inj ht'⟩
    refine ks_wpAny_getMethod_super eso (PySem.W.looks_opaque XK2 S.any) (l₀ := cd.mro) ?_ rfl XK2 sup hof hofc (PySem.W.ks_ne XK2 inst2 hc) T.nc ?_
    · exact fun A Q E s k q => wpAny_bind ((PySem.W.looks_clsIn XK2 hc) A _ E s k (wpAny_pure q))
    · have I3 := ClX.met_new (g := g) (C := a) I2
      refine ClX.callwith_cm I3 (ClX.base_none I2 (Nat.le_refl _)) T.fn (thn (ha.run pos _ _ σ H _ I3 h) fun us s3 ⟨vs, H2, I4, rv, q2⟩ => ⟨⟨ClX.pin_at I4, I4.kIn⟩, ?_⟩) he hpl
      exact ClX.run_cm F hr L2.pass0 I4 rv q2
end
/-! ### expressions, tests, statements that know the body they stand in -/
section
variable {M : Model} {A : Around} {c : Code} {E : Value → Shared → Prop} {s : Shared} {env : Env}
theorem at_and {e₁ e₂ : Expr} {rest : List Expr} {pos : Pos} {Q : Value → Shared → Prop}
    (h : _root_.PySem.wpAt M A c (eval e₁ env) (fun v s₁ => wpAny M A (truthy v) (fun c s₂ => if c then wpAny M A (eval (.BoolOp .And (e₂ :: rest) pos) env) Q E s₂ else Q v s₂) E s₁) E s) :
    _root_.PySem.wpAt M A c (eval (.BoolOp .And (e₁ :: e₂ :: rest) pos) env) Q E s := by
  show _root_.PySem.wpAt M A c (do
    let v ← eval e₁ env
    standAt pos
    let c ← holding [v] (truthy v)
    match BoolOp.And, c with
    | .And, false | .Or, true => pure v
    | _, _ => boolOp pos .And (eval e₂ env :: evalEach rest env)) Q E s
  refine _root_.PySem.wpAt_bind (ks_wpAt_mono h (fun v s₁ h₁ => wpAt_of_wpAny (wpAny_bind (wpAny_standAt (wpAny_bind (wpAny_holding (wpAny_mono h₁ (fun c s₂ h₂ => ?_) fun _ _ x => x)))))) fun _ _ x => x)
  cases c with
  | false => exact wpAny_pure h₂
  | true => exact h₂
theorem at_not {x : Expr} {pos : Pos} {whole : Sem Value} {Q : Bool → Shared → Prop} (h : _root_.PySem.wpAt M A c (isTrue x env (eval x env)) (fun c s' => Q (!c) s') E s) :
    _root_.PySem.wpAt M A c (isTrue (.UnaryOp .Not x pos) env whole) Q E s := by
  show _root_.PySem.wpAt M A c (do return !(← isTrue x env (eval x env))) Q E s
  exact _root_.PySem.wpAt_bind (ks_wpAt_mono h (fun c s' h' => wpAt_of_wpAny (wpAny_pure h')) fun _ _ x => x)
theorem at_or {x : Expr} {rest : List Expr} {pos : Pos} {whole : Sem Value} {Q : Bool → Shared → Prop}
    (h : _root_.PySem.wpAt M A c (isTrue x env (eval x env)) (fun c s' => if c then Q true s' else wpAny M A (isTrue (.BoolOp .Or rest pos) env whole) Q E s') E s) :
    _root_.PySem.wpAt M A c (isTrue (.BoolOp .Or (x :: rest) pos) env whole) Q E s := by
  show _root_.PySem.wpAt M A c (do
    match BoolOp.Or, ← isTrue x env (eval x env) with
    | .And, false => pure false
    | .Or, true => pure true
    | _, _ => allTrue .Or rest env) Q E s
  refine _root_.PySem.wpAt_bind (ks_wpAt_mono h (fun c s' h' => wpAt_of_wpAny ?_) fun _ _ x => x)
  cases c with
  | false => exact h'
  | true => exact wpAny_pure h'
end
section
variable {X : Cx} {body : List Stmt} {e a b : Expr} {rest : List Expr} {st : Stmt} {sts : List Stmt} {pos : Pos} {te ta tb : TE} {tA tB' : TT} {t u : TS}
structure PEa (X : Cx) (body : List Stmt) (e : Expr) (te : TE) : Prop where
  run : ∀ pins s σ H Q, Inv X pins σ H s → te σ H Q → _root_.PySem.wpAt (model X.prog X.w) X.A (.func body X.env) (eval e X.env) (EP X pins σ Q) X.xe s
structure PTa (X : Cx) (body : List Stmt) (e : Expr) (t : TT) : Prop where
  run : ∀ pins s σ H Q, Inv X pins σ H s → t σ H Q → _root_.PySem.wpAt (model X.prog X.w) X.A (.func body X.env) (isTrue e X.env (eval e X.env)) (TP X pins σ Q) X.xe s
structure PSa (X : Cx) (body : List Stmt) (st : Stmt) (t : TS) : Prop where
  run : ∀ pins s σ H D, Inv X pins σ H s → t D σ H → _root_.PySem.wpAt (model X.prog X.w) X.A (.func body X.env) (exec st X.env) (SP X pins D) X.xe s
structure PSsa (X : Cx) (body : List Stmt) (sts : List Stmt) (t : TS) : Prop where
  run : ∀ pins s σ H D, Inv X pins σ H s → t D σ H → _root_.PySem.wpAt (model X.prog X.w) X.A (.func body X.env) (execs sts X.env) (SP X pins D) X.xe s
/-- super().m(..), self the first name -/
def tSupM (C : Addr) (sp : Sp) (ta : TA) : TE := fun σ H Q => ∃ a dx fs, σ[0]? = some (some (.ref a)) ∧ H a = some (.ins C dx fs) ∧ ta σ H fun vs H2 => sp (.ref a :: vs) H2 Q E0
theorem pea_sup {self m : Str} {D C g : Addr} {k : Nat} {sp : Sp} {p0 p1 p2 : Pos} {es : List Expr} {ta : TA} {pl : Sem Bool} (S : SupF X.prog X.K X.mg X.env self D) (T : SupA X.K C D m g) (F : FnR X.prog X.w X.K X.mg X.base CX0 k g sp) (hr : Room k X.A) (hN : X.N[0]? = some self) (ha : PA X (e :: es) ta)
    (hev : eval (.Call (.Attribute (.Call (.Name "super" p0) [] [] p1) m p2) (e :: es) [] pos) X.env = (do
      let ov ← attributeBase (.Call (.Name "super" p0) [] [] p1) m X.env (eval (.Call (.Name "super" p0) [] [] p1) X.env)
      standAt p2.atName
      let (f, first) ← holding [ov] (getMethod ov m pl)
      callWith pos f first (backTo pos (starEach (e :: es) X.env)) []) := by rfl)
    (he : starEach (e :: es) X.env = (false, eval e X.env) :: starEach es X.env := by rfl) (hpl : (backTo pos (starEach es X.env)).any (·.1) = false := by rfl) :
    PEa X body (.Call (.Attribute (.Call (.Name "super" p0) [] [] p1) m p2) (e :: es) [] pos) (tSupM C sp ta) :=
  ⟨fun _ _ _ _ _ I ⟨_, _, _, h0, ea, h⟩ => sup_eval I S T F hr hN h0 ea ha h hev he hpl⟩
theorem pea_and (ha : PEa X body a ta) (hb : PE X (.BoolOp .And (b :: rest) pos) tb) : PEa X body (.BoolOp .And (a :: b :: rest) pos) (tAndV ta tb) := by
  refine ⟨fun pins s σ H Q I h => ?_⟩
  refine at_and (ks_wpAt_mono (ha.run pins s σ H _ I h) (fun v s1 ⟨x, H1, I1, r1, q1⟩ => ?_) fun _ _ z => z)
  obtain ⟨c, rfl, q1⟩ := q1
  cases r1
  refine wpAny_truthy_bool ?_
  cases c with
  | true => exact hb.run pins s1 σ H1 Q I1 q1
  | false => exact ⟨.bl false, H1, I1, rfl, q1⟩
theorem pta_val (h : PEa X body e te) (he : ∀ whole, isTrue e X.env whole = (do let v ← whole; standAt e.pos; holding [v] (truthy v)) := by intro _; rfl) : PTa X body e (tB te) := by
  refine ⟨fun pins s σ H Q I hw => ?_⟩
  rw [he]
  refine _root_.PySem.wpAt_bind (ks_wpAt_mono (h.run pins s σ H _ I hw) (fun v s1 ⟨x, H1, I1, r1, q1⟩ => wpAt_of_wpAny (wpAny_bind (wpAny_standAt (wpAny_holding ?_)))) fun _ _ z => z)
  obtain ⟨d, rfl, q⟩ := q1
  cases r1
  exact wpAny_truthy_bool ⟨H1, I1, q⟩
theorem pta_not (h : PTa X body a tA) : PTa X body (.UnaryOp .Not a pos) (tNot tA) := ⟨fun pins s σ H Q I hw => at_not (h.run pins s σ H (fun c H1 => Q (!c) H1) I hw)⟩
theorem pta_or (ha : PTa X body a tA) (hb : PW X (.BoolOp .Or (b :: rest) pos) tB') : PTa X body (.BoolOp .Or (a :: b :: rest) pos) (tOr tA tB') := by
  refine ⟨fun pins s σ H Q I h => ?_⟩
  refine at_or (ks_wpAt_mono (ha.run pins s σ H _ I h) (fun c s1 ⟨H1, I1, q1⟩ => ?_) fun _ _ z => z)
  cases c with
  | true => exact ⟨H1, I1, q1⟩
  | false => exact hb.run _ pins s1 σ H1 Q I1 q1
theorem psa_ret (h : PEa X body e te) : PSa X body (.Return (some e) pos) (tRet te) :=
  ⟨fun pins s σ H D I w => ks_wpAt_Return_some (ks_wpAt_mono (h.run pins s σ H _ I w) (fun v s1 ⟨x, H1, I1, r1, q1⟩ => ⟨x, σ, H1, I1, r1, q1⟩) fun _ _ z => z)⟩
theorem psa_if {c : Expr} {x y : List Stmt} {tc : TT} (hc : PTa X body c tc) (ha : PSs X x t) (hb : PSs X y u) : PSa X body (.If c x y pos) (tIfS tc t u) := by
  refine ⟨fun pins s σ H D I h => ?_⟩
  refine ks_wpAt_If (ks_wpAt_mono (hc.run pins s σ H _ I h) (fun d s1 ⟨H1, I1, q1⟩ => ?_) fun _ _ z => z)
  cases d with
  | true => exact wpAt_of_wpAny (ha.run pins s1 σ H1 D I1 q1)
  | false => exact wpAt_of_wpAny (hb.run pins s1 σ H1 D I1 q1)
theorem PSa.of (h : PS X st t) : PSa X body st t := ⟨fun pins s σ H D I w => wpAt_of_wpAny (h.run pins s σ H D I w)⟩
theorem PSsa.of (h : PSs X sts t) : PSsa X body sts t := ⟨fun pins s σ H D I w => wpAt_of_wpAny (h.run pins s σ H D I w)⟩
theorem pssa_cons (h : PSa X body st t) (hs : PSsa X body sts u) : PSsa X body (st :: sts) (tSeq t u) := by
  refine ⟨fun pins s σ H D I w => ?_⟩
  refine ks_wpAt_execs_cons (ks_wpAt_mono (h.run pins s σ H _ I w) (fun fl s1 hf => ?_) fun _ _ z => z)
  cases fl with
  | next =>
    obtain ⟨σ', H', J, q⟩ := hf
    exact hs.run pins s1 σ' H' D J q
  | brk => exact hf
  | cont => exact hf
  | ret u => exact hf
theorem pssa_one (h : PSa X body st t) : PSsa X body [st] t := by
  refine ⟨fun pins s σ H D I w => ?_⟩
  refine ks_wpAt_execs_cons (ks_wpAt_mono (h.run pins s σ H _ I w) (fun fl s1 hf => ?_) fun _ _ z => z)
  cases fl with
  | next => exact wpAt_of_wpAny (wpAny_execs_nil hf)
  | brk => exact hf
  | cont => exact hf
  | ret u => exact hf
end
section
variable {CX : CXT} {P : Program} {w : World} {K : PySem.W.Frag} {mg : Str → Option Value} {base : Heap} {k : Nat} {F : NF} {f cc D : Addr} {kV doc pm ct oc : Value} {an od : Option Addr} {osl : Array (Option Value)} {N ps : List Str} {sp : Sp}
/-- a def with the class's cell, whose body says super() -/
theorem fn_at (lk : K.lookup f = some ⟨oc, od, .func (PySem.W.fnX F.name F.qual F.params F.body F.scope F.cl .none kV doc pm an (.ref F.c) ct), osl⟩) (hcd : PySem.W.codeIn K (.ref F.c) F.qual = true) (hcl : F.cl = [(("__class__" : Str), cc)])
    (hcc : ∃ cl cld csl, K.lookup cc = some ⟨cl, cld, .cell (some (.ref D)), csl⟩) (S : NScope N ps ["__class__"] F.scope)
    (len : ∀ vs H Q E, sp vs H Q E → vs.length = ps.length)
    (hbody : ∀ (A : Around) (outer : List Env) (s : Shared) (H : Hp) (vs : List V) (Q : VK) (E : XK), Room k (A.deeper (envF F f s.heap.objs.size)) → sp vs H Q E →
      ∃ t : TS, PSsa (ncx CX P w K mg base N F f A outer s H E) F.body F.body t ∧ t { nx := fun _ H' => Q .non H', rt := Q } (startF N vs [none]) H) :
    FnOk P w K mg base CX (k + 1) f (PySem.W.fnX F.name F.qual F.params F.body F.scope F.cl .none kV doc pm an (.ref F.c) ct) ps sp := by
  refine ⟨len, fun A outer s H args us vs Q E hr e0 hb r hsp => ?_⟩
  have hl := len _ _ _ _ hsp
  have KX : K.In s.heap := e0.mod.kin.keeps fun b o e => (e0.bs b o e).1
  have lim : s.heap.NoLimit := e0.mod.nolimit.keeps fun b o e => (e0.bs b o e).1
  obtain ⟨cl, cld, csl, hcc⟩ := hcc
  have C : CellsAt F.cl ["__class__"] [none] s.heap H := by
    have one : ∀ {y : Str} {c : Addr}, F.cl.lookup y = some c → y = "__class__" ∧ c = cc := fun {y c} e => by
      rw [hcl] at e
      by_cases h : y = ("__class__" : Str)
      · subst h
        have e2 : some cc = some c := e
        exact ⟨rfl, (Option.some.inj e2).symm⟩
      · have h2 : (y == ("__class__" : Str)) = false := by simpa using h
        rw [List.lookup_cons, h2] at e
        cases e
    refine ⟨rfl, fun y c e => ?_, fun x y c e1 e2 => (one e1).1.trans (one e2).1.symm, fun i y hi => ?_⟩
    · rw [(one e).2]
      exact ⟨(e0.bs _ _ (e0.mod.kin _ _ hcc)).2, _, ⟨_, KX _ _ hcc, rfl⟩⟩
    · cases i with
      | zero =>
        have e : ("__class__" : Str) = y := Option.some.inj hi
        refine ⟨cc, by rw [hcl, ← e]; rfl, fun v hv => ?_⟩
        cases hv
      | succ i => cases hi
  refine ks_codeAny_call_defAt hr.depth (KX _ _ lk) rfl lim (PySem.W.codeRec_of KX hcd) rfl hb S.nocell (fun ⟨n, v⟩ hy => S.par n (List.of_mem_zip hy).1) (fun h₁ hns kp => ?_) S.co S.gen S.kind
  show _root_.PySem.wpAt (model P w) (A.deeper (envF F f s.heap.objs.size)) (.func F.body (envF F f s.heap.objs.size)) (execs F.body (envF F f s.heap.objs.size)) _ _ _
  obtain ⟨t, ps', hq⟩ := hbody A outer s H vs Q E (hr.deeper _) hsp
  have I : Inv (ncx CX P w K mg base N F f A outer s H E) [] (startF N vs [none]) H { s with heap := h₁, toks := s.toks + (ps.zip us).length } := inv_startN S hr.hd e0 hl r C hns kp
  have fin : ∀ {s' : Shared} {σ' : L2.St} {H' : Hp} {v : V} {u : Value}, Inv (ncx CX P w K mg base N F f A outer s H E) [] σ' H' s' → L2.RelV v u → Q v H' → CE outer P w H s Q u s' :=
    fun {s' σ' H' v u} J rv q => ⟨v, H', J.os, J.bare, J.base, J.hok, rv, q⟩
  refine ks_wpAt_mono (ps'.run [] _ (startF N vs [none]) H _ I hq) (fun fl s' hs => ?_) fun e s' hs => hs
  cases fl with
  | ret u =>
    obtain ⟨v, σ', H', J, rv, q⟩ := hs
    exact fin J rv q
  | next =>
    obtain ⟨σ', H', J, q⟩ := hs
    exact fin (v := V.non) (u := Value.none) J rfl q
  | brk =>
    obtain ⟨_, _, _, q⟩ := hs
    exact False.elim q
  | cont =>
    obtain ⟨_, _, _, q⟩ := hs
    exact False.elim q
end
end SupM
/-! dicts whose keys are tuples: made by a comprehension. -/
namespace Dt
open PySem PySem.Spec PyProof.Rows L2 Bx TL Dx Zx
/-- the store of such a comprehension -/
theorem put_in {X : Cx} {pins : List (Addr × Obj)} {σ : L2.St} {H : Hp} {s : Shared} {E : Value → Shared → Prop} {D b : Addr} {kvs : List (List Key × V)} {k : List Key} {v : V} {r : Value} {Q : Unit → Shared → Prop} (hu : X.A.units < cLine) (J : Inv X pins σ H s) (hD : H D = some (.dT kvs)) (hl : kvs.length < sizeLine)
    (hb : H b = some (.tup (k.map kV))) (rv : RelV v r) (q : ∀ s', Inv X pins σ (upd H D (.dT (putK kvs k v))) s' → Q () s') : wpAny (model X.prog X.w) X.A (dictSet D (.ref b) r) Q E s := by
  obtain ⟨_, ns, xs, rel, dd⟩ := dt_of J.hok hD
  have small : xs.length ≤ sizeLine := by
    have := Paired.length rel
    omega
  have after : (putK kvs k v).length ≤ sizeLine := by
    have := length_putK kvs k v
    omega
  refine wpAny_dictSet_heap (hsz := small) hu (key_of J.hok hb) dd fun g dg sb => q _ ?_
  obtain ⟨ob, es, ep, ho, x2, x3, x4, _, x5⟩ := dg
  refine d_write J (by rw [hD]; exact True.intro) sb ⟨ob, ho⟩ ⟨after, ns, _, (rel.put k hb rv).keeps fun c ys e => ?_, ob, es, ep, ho, x2, x3, x4, x5⟩
  rw [upd_ne (ne_of e hD fun z => nomatch z)]
  exact e
end Dt
namespace Dt
open PySem PySem.Spec PyProof.Rows L2 Bx TL Dx Zx
section
variable {X : Cx}
/-- {k: v for target in iter if ..}, the keys tuples of ints and texts -/
def tDcT (wi : TI) (g : TG) (tt : TT) (tk tv : TE) (vs : List Nat) : TE := fun σ H Q => wi σ H fun J H1 => ∀ D, H1 D = none → ∃ W : Nat → Nat → Hp → Prop, (∃ m, W 0 m (upd H1 D (.dT []))) ∧ ∀ i m H, W i m H →
  (J.stop i H ∧ Q (.ref D) H) ∨ (J.go i H ∧ ∃ Nx : Hp → Prop, (∀ H', Nx H' → ∃ m', m' < m ∧ W (i + 1) m' H') ∧ ∀ x H', J.yld i H x H' → g x (wipe σ vs) H' fun σ2 H2 => wipe σ2 vs = wipe σ vs ∧ tt σ2 H2 fun b H3 =>
    if b = true then tk σ2 H3 fun y H4 => tv σ2 H4 fun z H5 => ∃ a kvs k, y = .ref a ∧ H5 a = some (.tup (k.map kV)) ∧ H5 D = some (.dT kvs) ∧ kvs.length < sizeLine ∧ Nx (upd H5 D (.dT (putK kvs k z))) else Nx H3)
end
end Dt
namespace Dt
open PySem PySem.Spec PyProof.Rows L2 Bx TL Dx Zx
section
variable {X : Cx}
/-- what holds between the turns: the block's slots are bare, the iterator stands at i, the measure is n -/
def Between (Y : Cx) (fp : List Addr) (tn : Nat → Heap → Prop) (W : Nat → Nat → Hp → Prop) (τ : L2.St) (n : Nat) (z : Shared) : Prop := ∃ i G, Inv Y [] τ G z ∧ tn i z.heap ∧ (∀ b ∈ fp, G b = none) ∧ W i n G
theorem dct_core {pins : List (Addr × Obj)} {s : Shared} {σ : L2.St} {H : Hp} {Q : VK} {kx vx tg iter : Expr} {ifs : List Expr} {scope : Scope} {own : List (Str × Nat)} {pos pos' : Pos} {wi : TI} {g : TG} {tt : TT} {tk tv : TE} {use : Option (Value → Sem Unit)} {Qf : Value → Shared → Prop}
    (hu : X.A.units < cLine) (calm : X.calm = true) (nod : X.N.Nodup) (J : Inv X pins σ H s) (walk : PI X tg iter wi) (ok : BlkOk X.N X.env.scope scope own)
    (pg : ∀ (z : Shared) (G : Hp) (C : Addr) (cl : List (Str × Addr)) (fp : List Addr), PG (X.blk z G scope (compEnvC scope cl C X.env) fp) tg g) (pt : ∀ (z : Shared) (G : Hp) (C : Addr) (cl : List (Str × Addr)) (fp : List Addr), PTs (X.blk z G scope (compEnvC scope cl C X.env) fp) ifs tt)
    (pk : ∀ (z : Shared) (G : Hp) (C : Addr) (cl : List (Str × Addr)) (fp : List Addr), PE (X.blk z G scope (compEnvC scope cl C X.env) fp) kx tk) (pv : ∀ (z : Shared) (G : Hp) (C : Addr) (cl : List (Str × Addr)) (fp : List Addr), PE (X.blk z G scope (compEnvC scope cl C X.env) fp) vx tv)
    (fold : ∀ x, foldedSetIterable iter X.env x = pure x) (want : tDcT wi g tt tk tv (own.map (·.2)) σ H Q)
    (back : ∀ D C z m G, Inv X pins σ G z → Q (.ref D) G → z.heap.Ns C m → FpOk X pins G C → compPost (model X.prog X.w) X.A X.xe use Qf (.ref D) C (.ok .next) z) :
    wpAny (model X.prog X.w) X.A (comprehension (.DictComp kx vx [⟨tg, iter, ifs, 0⟩] scope pos) scope X.env pos' newDict false (eval iter X.env) use) Qf X.xe s := by
  have free : ∀ y ∈ scope.names, y.2 = .free → ∃ c, X.env.cells.lookup y.1 = some c := fun y m e => (ok.free y m e).elim (fun k => J.ok.has _ (.inl k)) fun k => J.ok.has _ (.inr k)
  have names : ∀ y ∈ scope.names, y.2 = .local → scope.names.lookup y.1 = some .local := fun y m e => by
    have := ok.uniq y m
    rw [e] at this
    exact this
  refine wpAny_comprehension_free (use := use) rfl fold (closure_ok free) ok.kind names (thn (walk.run pins s σ H _ J want) fun first z1 got => thn got fun itv z2 ready => ?_)
  obtain ⟨it, fp, tn, I0, G2, rfl, J2, T, at0, out2, q⟩ := ready
  refine wpAny_newObj_type (newEnv_comp ?_)
  have bare : G2 z2.heap.objs.size = none := J2.hok.fresh (Nat.le_refl _)
  obtain ⟨W, ⟨n0, start⟩, turn⟩ := q _ bare
  have lo : ∀ b ∈ fp, b < z2.heap.objs.size := fun b m => by
    obtain ⟨u, hu2, _⟩ := T.obj _ _ at0 b m
    exact Heap.lt_size hu2
  have J3 : Inv X pins σ (upd G2 z2.heap.objs.size (.dT [])) { z2 with heap := z2.heap.push { cls := .type "dict", data := .dict #[] } } :=
    J2.laid (t' := z2.toks) (fun b o e => Heap.get?_push_of_some _ e) (Nat.le_refl _) (dt_empty z2.heap J2.big)
  have out3 : ∀ b ∈ fp, FpOk X pins (upd G2 z2.heap.objs.size (.dT [])) b ∧ b < (z2.heap.push { cls := .type "dict", data := .dict #[] }).objs.size := fun b m => by
    have l := lo b m
    refine ⟨⟨?_, (out2 b m).2⟩, ?_⟩
    · rw [upd_ne (Nat.ne_of_lt l)]
      exact (out2 b m).1
    · rw [Heap.size_push]
      exact Nat.lt_succ_of_lt l
  have at3 : tn 0 (z2.heap.push { cls := .type "dict", data := .dict #[] }) := T.keep _ _ _ at0 fun b _ o e => Heap.get?_push_of_some _ e
  generalize hD : z2.heap.objs.size = D at *
  generalize hz3 : ({ z2 with heap := z2.heap.push { cls := .type "dict", data := .dict #[] } } : Shared) = z3 at *
  have e3 : z3.heap = z2.heap.push { cls := .type "dict", data := .dict #[] } := by rw [← hz3]
  rw [← e3] at out3 at3
  have J4 := block_start J3 ok nod out3
  have bare3 : ∀ b ∈ fp, (upd G2 D (.dT [])) b = none := fun b m => (out3 b m).1.1
  generalize upd G2 D (.dT []) = G3 at J3 J4 bare3 out3 start
  generalize hcl : cellsFrom (z3.heap.objs.size + 1) scope.names (cloFrom X.env.cells scope.names []) = cl at J4 ⊢
  generalize hC : z3.heap.objs.size = C at *
  have g1 := pg z3 G3 C cl fp
  have g2 := pt z3 G3 C cl fp
  have g3 := pk z3 G3 C cl fp
  have g4 := pv z3 G3 C cl fp
  show codeAny _ _ (.compStart (.DictComp kx vx [⟨tg, iter, ifs, 0⟩] scope pos) 0 (.ref it) (.ref D) (compEnvC scope cl C X.env)) (compPost (model X.prog X.w) X.A X.xe use Qf (.ref D) C) { z3 with heap := pushCells (z3.heap.push { cls := .type "dict", data := .dict #[] }) scope.names }
  have at4 : tn 0 (pushCells (z3.heap.push { cls := .type "dict", data := .dict #[] }) scope.names) := T.keep _ _ _ at3 fun b _ o e => pushCells_keeps _ _ _ _ (Heap.get?_push_of_some _ e)
  generalize hz4 : ({ z3 with heap := pushCells (z3.heap.push { cls := .type "dict", data := .dict #[] }) scope.names } : Shared) = z4 at J4 ⊢
  have at4' : tn 0 z4.heap := by
    rw [← hz4]
    exact at4
  have cloc : (compEnvC scope cl C X.env).locals = C := rfl
  generalize compEnvC scope cl C X.env = ce at J4 g1 g2 g3 g4 cloc ⊢
  have stays : ∀ {τ : L2.St} {G : Hp} {z : Shared}, Inv (X.blk z3 G3 scope ce fp) [] τ G z → (∀ b ∈ fp, G b = none) → ∀ b ∈ fp, FpOk (X.blk z3 G3 scope ce fp) [] G b := fun J' hn b m =>
    ⟨hn b m, (J'.ok.exf b m).1, J'.ok.exfs b m, .inl m, fun x c e => (J'.ok.exf b m).2 x c e, fun p hp => absurd (show p ∈ ([] : List (Addr × Obj)) ++ [] from hp) (by simp)⟩
  have loop : codeAny (model X.prog X.w) X.A (.compLoop (.DictComp kx vx [⟨tg, iter, ifs, 0⟩] scope pos) 0 (.ref it) (.ref D) ce) (compPost (model X.prog X.w) X.A X.xe use Qf (.ref D) C) z4 := by
    refine compLoop_anyD (fun n z => Between (X.blk z3 G3 scope ce fp) fp tn W (wipe σ (own.map (·.2))) n z) (fun n z5 h5 => ?_) n0 ⟨0, G3, J4, at4', bare3, start⟩
    obtain ⟨i, G5, J5, at5, bare5, w5⟩ := h5
    rcases turn i n G5 w5 with ⟨stop, fin⟩ | ⟨go, Nx, less, step⟩
    · have over := T.done (X.blk z3 G3 scope ce fp) rfl rfl rfl calm i [] z5 _ G5 (fun _ _ => False) J5 (stays J5 bare5) at5 stop
      refine thnF over fun r z6 ⟨none_, J6⟩ => ?_
      subst none_
      have home : Inv X pins σ G5 z6 := J3.call' (ch := fp) J6.os J6.base J6.hok J6.bare fun b m => ⟨(out3 b m).1.2.2.2.1, (out3 b m).1.2.1, (out3 b m).1.2.2.2.2.1, (out3 b m).1.2.2.2.2.2⟩
      have noC : G5 C = none := by
        have f : G5 ce.locals = none := J6.free
        rwa [cloc] at f
      obtain ⟨m, ns, _⟩ := J6.loc
      have ns2 : z6.heap.Ns ce.locals m := ns
      rw [cloc] at ns2
      exact back D C z6 m G5 home fin ns2 (J3.fpOk (Nat.le_of_eq hC) noC)
    · have one := T.item (X.blk z3 G3 scope ce fp) rfl rfl rfl calm i [] z5 _ G5 (fun _ _ => False) J5 (stays J5 bare5) at5 go
      refine thnF one fun r z6 ⟨u, some_, h6⟩ => ?_
      subst some_
      refine thnF h6 fun _ z7 ⟨x, G7, J7, rx, y7, at7, bare7⟩ => ?_
      have J7p := J7.pinned (stays J7 bare7) (T.obj _ _ at7)
      refine thnF (g1.run _ z7 _ G7 x u _ J7p rx (step x G7 y7)) fun _ z8 ⟨σ8, G8, J8, clean, q8⟩ => ?_
      refine thnF (g2.run _ z8 σ8 G8 _ J8 q8) fun b z9 ⟨G9, J9, q9⟩ => ?_
      have next : ∀ {z : Shared} {G : Hp}, Inv (X.blk z3 G3 scope ce fp) ([] ++ pinsAt fp z7.heap) σ8 G z → Nx G → ∃ m, m < n ∧ Between (X.blk z3 G3 scope ce fp) fp tn W (wipe σ (own.map (·.2))) m z := fun {z G} J' nx => by
        obtain ⟨m, lt, w'⟩ := less G nx
        have held : ∀ b ∈ fp, ∀ o, z7.heap.get? b = some o → z.heap.get? b = some o ∧ G b = none := fun b m o e =>
          have k := J'.pin (b, o) (List.mem_append_right _ (List.mem_append_right _ (mem_pinsAt m e)))
          ⟨k.1, k.2.1⟩
        have long : (wipe σ (own.map (·.2))).length = σ8.length := by rw [← clean, wipe_length]
        refine ⟨m, lt, i + 1, G, (J'.unpinned (pins := [])).weak long (fun j v e => ?_), T.keep _ _ _ at7 fun b m o e => (held b m o e).1, fun b m => ?_, w'⟩
        · rw [← clean] at e
          exact (wipe_some e).1
        · obtain ⟨o, e, _⟩ := T.obj _ _ at7 b m
          exact (held b m o e).2
      cases b with
      | false =>
        simp only [Bool.false_eq_true, if_false] at q9 ⊢
        exact next J9 q9
      | true =>
        simp only [if_true] at q9 ⊢
        refine thnF (g3.run _ z9 σ8 G9 _ J9 q9) fun kv z10 ⟨y, G10, J10, ry, q10⟩ => ?_
        refine thnF (g4.run _ z10 σ8 G10 _ J10 q10) fun vv z11 ⟨v, G11, J11, rv, a, kvs, k, ey, ha, hd, small, nx⟩ => ?_
        subst ey
        cases ry
        exact put_in (X := X.blk z3 G3 scope ce fp) hu J11 hd small ha rv fun z12 J12 => next J12 nx
  exact codeAny_compStart_dict loop (T.self X.A 0 _ _ _ at4' loop)
end
end Dt
namespace Dt
open PySem PySem.Spec PyProof.Rows L2 Bx TL Dx Zx
section
variable {X : Cx}
/-- name = {k: v for ..}, the keys tuples -/
theorem ps_setDcT {i : Nat} {y : Str} {py : Pos} {kx vx tg iter : Expr} {ifs : List Expr} {scope : Scope} {own : List (Str × Nat)} {pos spos : Pos} {wi : TI} {g : TG} {tt : TT} {tk tv : TE} (hu : X.A.units < cLine) (hc : X.calm = true) (hN : X.N.Nodup) (hy : X.N[i]? = some y) (hyl : X.env.scope.names.lookup y = some .local)
    (hsw : swapsWith (.DictComp kx vx [⟨tg, iter, ifs, 0⟩] scope pos) (some (.Name y py)) spos.line X.env = pure true) (hi : PI X tg iter wi) (ok : BlkOk X.N X.env.scope scope own)
    (hg : ∀ (s : Shared) (H : Hp) (C : Addr) (cl : List (Str × Addr)) (fp : List Addr), PG (X.blk s H scope (compEnvC scope cl C X.env) fp) tg g) (ht : ∀ (s : Shared) (H : Hp) (C : Addr) (cl : List (Str × Addr)) (fp : List Addr), PTs (X.blk s H scope (compEnvC scope cl C X.env) fp) ifs tt)
    (hk : ∀ (s : Shared) (H : Hp) (C : Addr) (cl : List (Str × Addr)) (fp : List Addr), PE (X.blk s H scope (compEnvC scope cl C X.env) fp) kx tk)
    (he : ∀ (s : Shared) (H : Hp) (C : Addr) (cl : List (Str × Addr)) (fp : List Addr), PE (X.blk s H scope (compEnvC scope cl C X.env) fp) vx tv) (hs : ∀ x, foldedSetIterable iter X.env x = pure x := by intro _; rfl) :
    PS X (.Assign [.Name y py] (.DictComp kx vx [⟨tg, iter, ifs, 0⟩] scope pos) spos) (tAsg (tDcT wi g tt tk tv (own.map (·.2))) (gName i)) := by
  refine ⟨fun pins s σ H D I h => ?_⟩
  rw [exec_Assign_Name_used _ _ _ _ hsw]
  refine wpAny_bind (wpAny_standAt (wpAny_bind ?_))
  show wpAny _ X.A (do let _ ← comprehension (.DictComp kx vx [⟨tg, iter, ifs, 0⟩] scope pos) scope X.env _ newDict false (eval iter X.env) (some (assign (.Name y py) X.env))) _ _ s
  have h : tDcT wi g tt tk tv (own.map (·.2)) σ H (fun x H1 => gName i x σ H1 D.nx) := h
  refine wpAny_bind (thn (dct_core (Qf := fun _ s' => SP X pins D .next s') hu hc hN I hi ok hg ht hk he hs h fun L C s' m H' I' q hn f => ?_) fun _ s' hq => wpAny_pure (wpAny_pure hq))
  show wpAny _ _ (assign (.Name y py) X.env (.ref L)) _ _ _
  refine wpAny_assign_Name (store_ok2 (v := V.ref L) I' hN hy (.inl hyl) rfl (fun s2 I2 ⟨a, sb, ha⟩ => ?_) (.inr hyl))
  obtain ⟨f0, f1, f2, f3, f4, f5⟩ := f
  have haC : C ≠ a := by
    rcases ha with z | z
    · rw [z]; exact f1
    · exact fun e => f4 y a z e.symm
  refine ⟨m, hn.sameBut sb haC, fun h3 sb3 => ?_⟩
  exact ⟨_, H', I2.turned (t' := s2.toks) (fun b o hb e => (sb3.2 b hb).trans e) f0 f1 f3 f4 f5, q⟩
end
/-- over a walk -/
theorem dct_it {J : It} {n : Nat} {G : Hp → Prop} {Y : Nat → Hp → V → Hp → Prop} (w : Walk J n G Y) {g : TG} {tt : TT} {tk tv : TE} {vs : List Nat} {σ : L2.St} {H1 : Hp} {D : Addr} {Qd : Hp → Prop} (Pv : Nat → Hp → Prop) (h0 : Pv 0 (upd H1 D (.dT []))) (hG : ∀ i H, i ≤ n → Pv i H → G H)
    (hs : ∀ i x H H', i < n → Pv i H → Y i H x H' → g x (wipe σ vs) H' fun σ2 H2 => wipe σ2 vs = wipe σ vs ∧ tt σ2 H2 fun b H3 =>
      if b = true then tk σ2 H3 fun y H4 => tv σ2 H4 fun z H5 => ∃ a kvs k, y = .ref a ∧ H5 a = some (.tup (k.map kV)) ∧ H5 D = some (.dT kvs) ∧ kvs.length < sizeLine ∧ Pv (i + 1) (upd H5 D (.dT (putK kvs k z))) else Pv (i + 1) H3) (hd : ∀ H, Pv n H → Qd H) :
    ∃ W : Nat → Nat → Hp → Prop, (∃ m, W 0 m (upd H1 D (.dT []))) ∧ ∀ i m H, W i m H →
      (J.stop i H ∧ Qd H) ∨ (J.go i H ∧ ∃ Nx : Hp → Prop, (∀ H', Nx H' → ∃ m', m' < m ∧ W (i + 1) m' H') ∧ ∀ x H', J.yld i H x H' → g x (wipe σ vs) H' fun σ2 H2 => wipe σ2 vs = wipe σ vs ∧ tt σ2 H2 fun b H3 =>
        if b = true then tk σ2 H3 fun y H4 => tv σ2 H4 fun z H5 => ∃ a kvs k, y = .ref a ∧ H5 a = some (.tup (k.map kV)) ∧ H5 D = some (.dT kvs) ∧ kvs.length < sizeLine ∧ Nx (upd H5 D (.dT (putK kvs k z))) else Nx H3) :=
  walk_any (B := fun (Nx : Hp → Prop) x H' => g x (wipe σ vs) H' fun σ2 H2 => wipe σ2 vs = wipe σ vs ∧ tt σ2 H2 fun b H3 =>
        if b = true then tk σ2 H3 fun y H4 => tv σ2 H4 fun z H5 => ∃ a kvs k, y = .ref a ∧ H5 a = some (.tup (k.map kV)) ∧ H5 D = some (.dT kvs) ∧ kvs.length < sizeLine ∧ Nx (upd H5 D (.dT (putK kvs k z))) else Nx H3) w Pv h0 hG hs hd
end Dt
namespace Dt
open PySem PySem.Spec PyProof.Rows L2
/-- e.f within a block: the written part is named -/
theorem pe_fldK {X : Cx} {K : PySem.W.Frag} {e : Expr} {f : Str} {pos : Pos} {ta : TE} (h : X.K = K) (he : PE X e ta) (hb : attributeBase e f X.env (eval e X.env) = eval e X.env) : PE X (.Attribute e f pos) (tFld K ta f) := by
  subst h
  exact pe_fld he hb
end Dt
/-! a comprehension within another one's block -/
namespace Nx
open PySem PySem.Spec PyProof.Rows L2
theorem rel_eq {scope : Scope} {env : Env} {sc : Scope} (h : env.scope = sc) : relabel scope env = relS scope sc := by
  subst h
  rfl
theorem blkOk_nest {N : List Str} {sc scope1 scope : Scope} {cl : List (Str × Addr)} {C : Addr} {env : Env} {own : List (Str × Nat)} (he : env.scope = sc) (h : blkC N (relS scope1 sc) scope own = true) : BlkOk N (compEnvC scope1 cl C env).scope scope own := by
  have e : (compEnvC scope1 cl C env).scope = relS scope1 sc := rel_eq he
  rw [e]
  exact blkOk_by h
/-- d.setdefault(t, v), t a tuple of ints and texts -/
def rSetdT : V → List V → Hp → VK → Prop := fun x vs H Q => ∃ (a b : Addr) (kvs : List (List Key × V)) (k : List Key) (v : V), x = .ref a ∧ vs = [.ref b, v] ∧ H a = some (.dT kvs) ∧ H b = some (.tup (k.map kV)) ∧ kvs.length < sizeLine ∧
  (∀ u, valV kvs k = some u → Q u H) ∧ (valV kvs k = none → Q v (upd H a (.dT (putK kvs k v))))
theorem mt_setdT {X : Cx} (hu : X.A.units + 1 < cLine) : MtR X "dict.setdefault" rSetdT := by
  intro pins s σ H x xs v us Q I rx rs q
  obtain ⟨a, b, kvs, k, y, rfl, rfl, ea, eb, hl, w1, w2⟩ := q
  cases rx
  cases rs with
  | cons r1 rs =>
    cases rs with
    | cons r2 rs =>
      cases rs
      cases r1
      obtain ⟨z, hd, xs0, rel, dd⟩ := dt_of I.hok ea
      have hz : xs0.length ≤ sizeLine := by rw [← Paired.length rel]; exact z
      have hl2 : (putK kvs k y).length ≤ sizeLine := by have := length_putK kvs k y; omega
      refine call_setdefault_heap (hsz := hz) (tupleKind_room_in1 hu) (key_of I.hok eb) hd dd (fun p hp => ?_) fun hn h' dd' hs => ?_
      · have rr := rel.val k
        rw [hp] at rr
        cases e : valV kvs k with
        | none =>
          rw [e] at rr
          have := rr.isSome_eq
          cases this
        | some u =>
          rw [e] at rr
          exact ⟨u, H, I.tok _, rr, w1 u e⟩
      · have rr := rel.val k
        rw [hn] at rr
        have e : valV kvs k = none := by
          cases e : valV kvs k with
          | none => rfl
          | some u =>
            rw [e] at rr
            have := rr.isSome_eq
            cases this
        obtain ⟨q, es, ep, hq, h2, h3, h4, _, h5⟩ := dd'
        refine ⟨y, upd H a (.dT (putK kvs k y)), d_write I (by rw [ea]; exact True.intro) hs ⟨q, hq⟩ ⟨hl2, hd, _, (rel.put k eb r2).keeps fun c ys ec => ?_, q, es, ep, hq, h2, h3, h4, h5⟩, r2, w2 e⟩
        rw [upd_ne (ne_of ec ea (fun z => nomatch z))]
        exact ec
end Nx
/-! C() of an own class that has no `__init__`. -/
namespace Mk0
open PySem PySem.Spec PyProof.Rows L2 Ow
structure Bare (K : PySem.W.Frag) (mg : Str → Option Value) (x : Str) (C : Addr) : Prop where
  make : PySem.W.makesIn K C = true
  ini : PySem.W.findIn K (.ref C) "__init__" = some (some (.builtin "object.__init__"))
  kp : PySem.W.keepIn K (.ref C) = true
  g : mg x = some (.ref C)
section
variable {X : Cx} {pins : List (Addr × Obj)} {σ : L2.St} {H : Hp} {s : Shared} {C : Addr} {Q : VK} {x : Str} {p pos : Pos}
def tBare (C : Addr) : TE := fun _ H Q => ∀ y dy, H y = none → H dy = none → dy ≠ y → Q (.ref y) (upd (upd H dy (.own y)) y (.ins C dy []))
theorem run_bare (B : Bare X.K X.mg x C) (I : Inv X pins σ H s) (h : tBare C σ H Q) : wpAny (model X.prog X.w) X.A (call (.ref C) []) (EP X pins σ Q) X.xe s := by
  have hq := h (s.heap.objs.size + 1) s.heap.objs.size (I.hok.fresh (Nat.le_succ _)) (I.hok.fresh (Nat.le_refl _)) (Nat.ne_of_lt (Nat.lt_succ_self _))
  have I2 := Inv.made (C := C) I
  have XK := I.kIn
  obtain ⟨hh, g, d, t, os⟩ := s
  have Y := PySem.W.makes_of (M := model X.prog X.w) XK B.make
  refine wpAny_call (PySem.W.make_core Y (PySem.W.looks_findIn XK B.ini) (fun self => PySem.W.Looks.of_pure (PySem.W.oi_bind self)) (.inr ⟨rfl, rfl⟩) ?_)
  have hx : ((hh.push PySem.W.emptyDict).push (PySem.W.instObj C hh.objs.size)).get? (hh.objs.size + 1) = some (PySem.W.instObj C hh.objs.size) := by
    have := Heap.get?_push_size (hh.push PySem.W.emptyDict) (o := PySem.W.instObj C hh.objs.size) rfl
    rwa [Heap.size_push] at this
  have t1 : PySem.W.Looks (model X.prog X.w) ((hh.push PySem.W.emptyDict).push (PySem.W.instObj C hh.objs.size)) (typeOf (.ref (hh.objs.size + 1))) (.ref C) := (PySem.W.Looks.ld hx).andThen .now
  have t2 : PySem.W.Looks (model X.prog X.w) ((hh.push PySem.W.emptyDict).push (PySem.W.instObj C hh.objs.size)) (isInstance (.ref (hh.objs.size + 1)) (.type "object")) true := t1.andThen (Y.top.keeps fun b o e => Heap.get?_push_of_some _ (Heap.get?_push_of_some _ e))
  refine PySem.codeAny_call_builtin PySem.W.oi_plain PySem.W.entry_oi (@PySem.W.check_slot (model X.prog X.w) _ _ _ "object.__init__" "object" "__init__" (.ref (hh.objs.size + 1)) [] [] _ PySem.W.oi_kind PySem.W.oi_split t2 (PySem.W.oi_args (.ref (hh.objs.size + 1))) ?_)
  rw [PySem.W.oi_run]
  exact wpAny_pure (And.intro rfl ⟨V.ref (hh.objs.size + 1), _, I2, rfl, hq⟩)
theorem pe_bare (B : Bare X.K X.mg x C) (hg : Gl X x := by rfl) (hdb : (x == ("__debug__" : Str)) = false := by decide) : PE X (.Call (.Name x p) [] [] pos) (tBare C) := by
  refine ⟨fun pins s σ H Q I h => ?_⟩
  refine wpAny_Call_Name_kw (ld_glob I hg B.g ?_ hdb)
  exact PySem.W.callWith_K0 I.kIn B.kp (run_bare B I h)
end
end Mk0
/-! {**d, k: v}, and min(xs, default=v). -/
namespace Dd
open PySem PySem.Spec PyProof.Rows L2 Bx TL
open Sem (wp)
section
variable {prog : Program} {w : World} {κ : Type} [DecidableEq κ] {knd : PySem.KeyKind prog w κ} {A : Around} {E : Value → Shared → Prop} {s : Shared}
theorem put_pairs {d : Addr} {kvs : List (κ × Value)} {k : κ} {key v : Value} {Q : Unit → Shared → Prop} (hkey : knd.is k key = true) (hm : s.heap.DictOf knd d kvs)
    (hQ : ∀ h', h'.DictOf knd d (PySem.stored kvs k v) → Heap.SameBut d s.heap h' → Q () { s with heap := h' }) (hsz : kvs.length ≤ sizeLine) :
    wpAny (model prog w) A (dictPut d (knd.hash k) key v) Q E s := by
  obtain ⟨o, es, ep, ho, hc, hd, hk, hp, hn⟩ := hm
  have hes : es.size ≤ sizeLine := by
    have e1 := hp.length
    have e2 : es.toList.length = es.size := by simp
    omega
  unfold dictPut
  refine wpAny_bind (PySem.wpAny_dictFind_of hkey ho hd hk ?_)
  have hidx : (es.findIdx? fun e => knd.is k e.key) = kvs.findIdx? fun kv => decide (kv.1 = k) := by
    rw [← hp.findIdx k]; obtain ⟨l⟩ := es; simp
  cases hi : es.findIdx? fun e => knd.is k e.key with
  | some i =>
    refine wpAny_updateDict ho hd (hQ _ ⟨_, _, ep, Heap.get?_update_self _ ho (Obj.isFreed_of_dict (Obj.data_mapDict hd _)), hc.mapDict _, Obj.data_mapDict hd _, hk.modify _ _, ?_, ?_⟩ (Heap.SameBut.update ..))
    · rw [PySem.stored, if_pos (PySem.any_of_findIdx_some (hidx ▸ hi))]
      have hl : (es.toList.findIdx? fun e => knd.is k e.key) = some i := by rw [← hi]; obtain ⟨l⟩ := es; simp
      have := hp.modify hn hl v
      obtain ⟨l⟩ := es
      simpa using this
    · rw [PySem.stored, if_pos (PySem.any_of_findIdx_some (hidx ▸ hi)), PySem.keys_map_store]; exact hn
  | none =>
    have hnot : k ∉ kvs.map (·.1) := PySem.not_mem_of_findIdx_none (hidx ▸ hi)
    have hany : ¬ (kvs.any fun kv => decide (kv.1 = k)) = true := by
      rw [List.any_eq_true]; rintro ⟨kv, hkv, he⟩
      exact hnot (List.mem_map.mpr ⟨kv, hkv, of_decide_eq_true he⟩)
    refine wpAny_updateDictKeys (hz := hes) ho hd (hQ _ ⟨_, _, ep + 1, Heap.get?_update_self _ ho (Obj.isFreed_of_dict (Obj.data_mapDictKeys hd _)), hc.mapDictKeys _, Obj.data_mapDictKeys hd _, hk.push hkey _, ?_, ?_⟩ (Heap.SameBut.update ..))
    · rw [PySem.stored, if_neg hany]
      have := hp.append hkey (knd.hash k) v
      obtain ⟨l⟩ := es
      simpa using this
    · rw [PySem.stored, if_neg hany, List.map_append, List.nodup_append]
      refine ⟨hn, by simp, ?_⟩
      intro a ha b hb
      simp only [List.map_cons, List.map_nil, List.mem_singleton] at hb
      subst hb
      exact fun e => hnot (e ▸ ha)
theorem merge_map {d o : Addr} {kvs more : List (κ × Value)} {Q : Unit → Shared → Prop} (hdo : d ≠ o) (hoS : (o == sysModules) = false)
    (hd : s.heap.DictOf knd d kvs) (ho : s.heap.DictOf knd o more)
    (hQ : ∀ h', h'.DictOf knd d (PySem.merged kvs more) → Heap.SameBut d s.heap h' → Q () { s with heap := h' })
    (hsz : kvs.length + more.length ≤ sizeLine) :
    wpAny (model prog w) A (mergeMapping d (.ref o) false) Q E s := by
  obtain ⟨od, esd, epd, hod, hcd, hdd, hkd, hpd, hnd⟩ := id hd
  obtain ⟨oo, eso, epo, hoo, hco, hdo', hko, hpo, hno⟩ := id ho
  have hlen : more.length = eso.size := by rw [← hpo.length]; simp
  unfold mergeMapping
  refine wpAny_bind (wpAny_isInstance ho.typeIs isSubtype_dict_dict ?_)
  simp only [if_true]
  refine wpAny_bind (wpAny_specialOf ho.typeIs F.slot_dict_iter.lookup (wpAny_bind (wpAny_pure ?_)))
  show wpAny _ _ (if (o == sysModules) = true then _ else _) _ _ _
  rw [if_neg (by rw [hoS]; exact Bool.false_ne_true)]
  have fin : wpAny (model prog w) A (do
      let size := (← dictEntries o).size
      let epoch ← dictEpoch o
      for i in List.range size do
        let some e := (← dictEntries o)[i]? | unsupported "dict.changed-during-merge"
        holding [e.key, e.val] do
          dictPut d e.hash e.key e.val
        if (← dictEpoch o) != epoch then unsupported "dict.changed-during-merge") Q E s := by
    refine wpAny_bind (wpAny_dictEntries hoo hdo' ?_)
    refine wpAny_bind (wpAny_dictEpoch hoo hdo' ?_)
    refine wpAny_bind (wpAny_forIn_list _
      (fun rest _ s' => ∃ h' i, s' = { s with heap := h' } ∧ rest = List.range' i (eso.size - i) ∧ i ≤ eso.size ∧ h'.DictOf knd d (PySem.merged kvs (more.take i)) ∧ h'.get? o = some oo ∧ Heap.SameBut d s.heap h')
      (fun _ s' => wpAny (model prog w) A (pure ()) Q E s') ?_ ?_ (List.range eso.size) _ ⟨s.heap, 0, rfl, by rw [Nat.sub_zero, List.range_eq_range'], Nat.zero_le _, by simpa [PySem.merged] using hd, hoo, Heap.SameBut.refl _ _⟩)
    · rintro x rest b s' ⟨h', i, rfl, hr, hi, hd', hoo', hs'⟩
      have hlt : i < eso.size := by
        rcases Nat.lt_or_ge i eso.size with h | h
        · exact h
        · rw [Nat.sub_eq_zero_of_le h] at hr; simp at hr
      obtain ⟨rfl, hrest⟩ : x = i ∧ rest = List.range' (i + 1) (eso.size - (i + 1)) := by
        have e : eso.size - i = (eso.size - (i + 1)) + 1 := by omega
        rw [e, List.range'_succ] at hr
        injection hr with h1 h2
        exact ⟨h1, h2⟩
      refine wpAny_bind (wpAny_dictEntries hoo' hdo' ?_)
      rw [Array.getElem?_eq_getElem hlt]
      obtain ⟨kv, hkv⟩ : ∃ kv, more[x]? = some kv := ⟨more[x]'(by rw [hlen]; exact hlt), List.getElem?_eq_getElem _⟩
      obtain ⟨k, v⟩ := kv
      obtain ⟨hkey, hval⟩ := hpo.get? (e := eso[x]) (by simp [hlt]) hkv
      obtain ⟨k', hkey', hhash⟩ := hko eso[x] (Array.getElem_mem hlt)
      obtain rfl : k' = k := knd.inj _ _ _ hkey' hkey
      show wpAny _ _ (holding [eso[x].key, eso[x].val] (dictPut d eso[x].hash eso[x].key eso[x].val) >>= _) _ _ _
      rw [hhash, hval]
      have hmx : (PySem.merged kvs (more.take x)).length ≤ sizeLine := by
        have e1 := PySem.merged_length_le kvs (more.take x)
        have e2 : (more.take x).length ≤ more.length := by rw [List.length_take]; omega
        omega
      refine wpAny_bind (wpAny_holding (put_pairs (hsz := hmx) hkey hd' fun h'' hd'' hs'' => ?_))
      have hoo'' : h''.get? o = some oo := (hs''.2 o (Ne.symm hdo)).trans hoo'
      refine wpAny_bind (wpAny_dictEpoch hoo'' hdo' ?_)
      rw [if_neg (by simp)]
      exact wpAny_pure ⟨h'', x + 1, rfl, hrest, hlt, by rw [PySem.merged_take_succ kvs more x (k', v) hkv]; exact hd'', hoo'', hs'.trans hs''⟩
    · rintro b s' ⟨h', i, rfl, hr, hi, hd', hoo', hs'⟩
      have hin : i = eso.size := by
        rcases Nat.lt_or_ge i eso.size with h | h
        · have e : eso.size - i = (eso.size - (i + 1)) + 1 := by omega
          rw [e, List.range'_succ] at hr; exact nomatch hr
        · exact Nat.le_antisymm hi h
      rw [hin, ← hlen, List.take_length] at hd'
      exact wpAny_pure (hQ h' hd' hs')
  refine wpAny_bind (wpAny_dictEntries hod hdd ?_)
  have noref : ∀ e ∈ eso, ∀ a, e.key ≠ .ref a := fun e he a ea => by
    obtain ⟨k, hk, _⟩ := hko e he
    have := knd.byValue k _ hk
    rw [ea] at this
    cases this
  by_cases hemp : esd.isEmpty = true
  · rw [if_pos hemp]
    refine wpAny_bind (wpAny_dictEntries hoo hdo' ?_)
    refine wpAny_bind ?_
    rw [← Array.forIn_toList]
    refine wpAny_forIn_list _ (fun rest _ s' => s' = s ∧ ∀ e ∈ rest, e ∈ eso) _ ?_ ?_ _ _ ⟨rfl, fun e he => Array.mem_toList_iff.mp he⟩
    · rintro e rest b s' ⟨rfl, hin⟩
      have he := hin e (List.mem_cons_self ..)
      have hno' := noref e he
      cases ek : e.key with
      | ref a => exact absurd ek (hno' a)
      | _ => exact wpAny_pure ⟨rfl, fun e' h' => hin e' (List.mem_cons_of_mem _ h')⟩
    · rintro b s' ⟨rfl, _⟩
      exact fin
  · rw [if_neg hemp]
    exact fin
end
end Dd
namespace Dd
open PySem PySem.Spec PyProof.Rows L2 Bx TL
/-- {**e, k: v} -/
def tDStar (te tk tv : TE) : TE := fun σ H Q => ∀ p, H p = none → te σ (upd H p (.dK [])) fun x H1 => ∃ a kvs, x = .ref a ∧ H1 a = some (.dK kvs) ∧ a ≠ p ∧ H1 p = some (.dK []) ∧ kvs.length + 1 ≤ sizeLine ∧
  ∀ p2, (upd H1 p (.dK kvs)) p2 = none → tPairs [(tk, tv)] σ (upd (upd H1 p (.dK kvs)) p2 (.dK [])) fun ps H3 => ∃ k z, ps = [(kV k, z)] ∧ H3 p = some (.dK kvs) ∧ H3 p2 = some (.dK []) ∧ Q (.ref p) (upd (upd H3 p2 (.dK [(k, z)])) p (.dK (putK kvs k z)))
theorem pe_dstar {X : Cx} {e k v : Expr} {te tk tv : TE} {pos : Pos} (he : PE X e te) (hk : PE X k tk) (hv : PE X v tv) : PE X (.Dict [none, some k] [e, v] pos) (tDStar te tk tv) := by
  refine ⟨fun pins s σ H Q I q => ?_⟩
  rw [arm_eval_Dict]
  refine wpAny_bind (wpAny_standAt ?_)
  show wpAny _ _ (dictDisplay [(none, do let x ← eval e X.env; standAt pos; pure x), (some (eval k X.env), do let x ← eval v X.env; standAt pos; pure x)]) _ _ _
  unfold dictDisplay
  simp only [List.forIn_cons, List.forIn_nil, List.isEmpty_nil, if_true, pure_bind, List.nil_append, List.length_cons, List.length_nil]
  have hp0 := I.hok.fresh (Nat.le_refl s.heap.objs.size)
  have I1 := I.laid (a := s.heap.objs.size) (o := .dK []) (h' := s.heap.push { cls := .type "dict", data := .dict #[] }) (t' := s.toks) (fun _ _ z => Heap.get?_push_of_some _ z) (Nat.le_refl _) (dk_empty s.heap I.big)
  refine wpAny_bind (wpAny_bind (wpAny_bind (wpAny_alloc (wpAny_bind (wpAny_holding (wpAny_bind (thn (he.run pins _ σ _ _ I1 (q _ hp0)) fun u s1 ⟨x, H1, I2, r1, a, kvs, ex, ea, nap, ep, hz, q1⟩ => ?_)))))))
  refine wpAny_bind (wpAny_standAt (wpAny_pure ?_))
  subst ex
  obtain rfl : u = Value.ref a := r1
  obtain ⟨z0, hd0, vs0, r0, dd0⟩ := dk_of I2.hok ep
  cases r0
  obtain ⟨za, hda, vsa, ra, dda⟩ := dk_of I2.hok ea
  have len : kvs.length = vsa.length := ra.length
  have nd : (vsa.map (·.1)).Nodup := by
    obtain ⟨_, _, _, _, _, _, _, _, hn⟩ := dda
    exact hn
  refine wpAny_bind (wpAny_onRaise (wpAny_tryCatch (wpAny_onRaise (wpAny_holding (merge_map (Ne.symm nap) hda dd0 dda (fun h1 m1 sb1 => ?_) (by rw [List.length_nil]; omega))))))
  rw [PySem.merged_nil_of_nodup _ nd] at m1
  have hp1 : ∃ z, h1.get? s.heap.objs.size = some z := let ⟨z, _, _, hq, _⟩ := m1; ⟨z, hq⟩
  have I3 : L2.Inv X pins σ (upd H1 s.heap.objs.size (.dK kvs)) { s1 with heap := h1 } := d_write (t' := s1.toks) I2 (by rw [ep]; exact True.intro) sb1 hp1 (dk_new (by omega) hd0 ra m1)
  refine wpAny_pure (wpAny_pure (wpAny_bind ?_))
  show wpAny _ _ (holding [.ref s.heap.objs.size] (subDict (pairTrees [some k] [v] X.env pos)) >>= _) _ _ _
  have hp2 := I3.hok.fresh (Nat.le_refl h1.objs.size)
  have np12 : s.heap.objs.size ≠ h1.objs.size := fun z => by
    obtain ⟨o, ho⟩ := hp1
    exact Nat.ne_of_lt (PySem.Heap.lt_size ho) z
  have I4 := I3.laid (a := h1.objs.size) (o := .dK []) (h' := h1.push { cls := .type "dict", data := .dict #[] }) (t' := s1.toks) (fun _ _ z => Heap.get?_push_of_some _ z) (Nat.le_refl _) (dk_empty h1 I3.big)
  refine wpAny_bind (wpAny_holding (wpAny_subDict (knd := mixKind X.prog X.w) (by show 1 ≤ 15; decide) (thn ((pps_cons (pos := pos) hk hv pps_nil).run pins _ σ _ _ I4 (q1 _ hp2)) fun ws s2 ⟨ps, H3, I5, rel, kk, z, eps, e1, e2, q2⟩ => ?_)))
  subst eps
  obtain ⟨rs, cr, rk⟩ := carries_of (P := X.prog) (w := X.w) (kvs := [(kk, z)]) rel
  obtain ⟨z2, hd2, vs2, r2, dd2⟩ := dk_of I5.hok e2
  cases r2
  refine ⟨rs, cr, dd2, fun h2 m2 sb2 => ?_⟩
  have n2 : (rs.map (·.1)).Nodup := by
    have ek := rk.keys
    rw [← ek]
    exact List.nodup_cons.mpr ⟨List.not_mem_nil, List.nodup_nil⟩
  rw [PySem.merged_nil_of_nodup _ n2] at m2
  have hp3 : ∃ z, h2.get? h1.objs.size = some z := let ⟨z, _, _, hq, _⟩ := m2; ⟨z, hq⟩
  have I6 : L2.Inv X pins σ (upd H3 h1.objs.size (.dK [(kk, z)])) { s2 with heap := h2, toks := s2.toks + ws.length } := d_write I5 (by rw [e2]; exact True.intro) sb2 hp3 (dk_new (by rw [sizeLine_eq]; show 1 ≤ 16777216; decide) hd2 rk m2)
  have e3 : (upd H3 h1.objs.size (.dK [(kk, z)])) s.heap.objs.size = some (.dK kvs) := by rw [upd_ne np12]; exact e1
  obtain ⟨z3, hd3, vs3, r3, dd3⟩ := dk_of I6.hok e3
  refine wpAny_bind (wpAny_onRaise (wpAny_holding (merge_map np12 hd2 dd3 m2 (fun h3 m3 sb3 => ?_) ?_)))
  · obtain ⟨rv, rs2⟩ : ∃ rv, rs = [(kk, rv)] ∧ RelV z rv := by
      cases rk with
      | cons h t =>
        cases t
        obtain ⟨h1, h2⟩ := h
        exact ⟨_, congrArg (fun z => [z]) (Prod.ext h1.symm rfl), h2⟩
    obtain ⟨rfl, rzv⟩ := rs2
    have hp4 : ∃ z, h3.get? s.heap.objs.size = some z := let ⟨z, _, _, hq, _⟩ := m3; ⟨z, hq⟩
    refine wpAny_pure (wpAny_pure ⟨.ref s.heap.objs.size, _, d_write (t' := s2.toks + ws.length) I6 (by rw [e3]; exact True.intro) sb3 hp4 (dk_new ?_ hd3 (r3.put kk rzv) m3), rfl, q2⟩)
    have := length_putK kvs kk z
    omega
  · have l3 : kvs.length = vs3.length := r3.length
    have l4 : [(kk, z)].length = rs.length := rk.length
    have l5 : [(kk, z)].length = 1 := rfl
    omega
end Dd
/-! min(xs, default=v) of a list of whole numbers. -/
namespace Mn
open PySem PySem.Spec PyProof.Rows L2 Bx TL
section
variable {prog : Program} {w : World} {A : Around} {R : Result → Shared → Prop} {J : Addr} {fp wr : List Addr} {n : Nat} {P : Nat → Value → Prop} {St : Nat → PySem.Heap → Prop}
theorem nm : (toString "min" ++ toString ".loop" : String) = "min.loop" := by decide
theorem loop_on (V : PySem.Walks prog w A.in1 J fp wr n P St) (lt : Nat → Nat → Bool) (cm : PySem.CmpOf prog w A.in1 .Lt P lt) (kw : List (Str × Value)) (B : Addr) (nB : B ∉ fp) :
    ∀ (r j : Nat) (s : Shared) (vb : Value) (c : Nat), n - (j + 1) = r → j + 1 ≤ n → St (j + 1) s.heap → P (PySem.argBest lt j) vb → s.heap.get? B = some { cls := .type "list", dict := none, data := .seq #[vb, vb] c, slots := #[] } →
    (∀ v h' tk, P (PySem.argBest lt (n - 1)) v → (∀ b o, b ∉ wr → b ≠ B → s.heap.get? b = some o → h'.get? b = some o) → R (.ok (.ret v)) { s with heap := h', toks := tk }) →
    codeAny (model prog w) A (.builtin "min.loop" ⟨[.ref J, .none, .ref B], kw⟩) R s := by
  have nW : B ∉ wr := fun z => nB (V.sub _ z)
  intro r
  induction r with
  | zero =>
    intro j s vb c er ej gs gp gB gR
    have en : j + 1 = n := by omega
    refine codeAny_builtin PySem.F.entry_min_loop ?_
    rw [Around.under_plainId PySem.F.plain_min_loop _]
    show wpAny _ A.in1 (seqItems? (.ref B) >>= _) _ _ s
    refine wpAny_bind (wpAny_seqItems gB rfl ?_)
    show wpAny _ A.in1 (tryCatch (pyNext (.ref J)) _ >>= _) _ _ s
    refine wpAny_bind (wpAny_tryCatch (V.done s _ _ (en ▸ gs) fun h1 t1 kp => ?_))
    have gB1 := kp B _ nW gB
    show wpAny _ A.in1 (updateSeq B (fun _ => #[]) >>= _) _ _ _
    refine wpAny_bind (wpAny_updateSeq gB1 rfl (wpAny_bind (wpAny_letGo (wpAny_pure ?_))))
    exact gR vb _ t1 (by rw [← en]; exact gp) fun b o b1 b2 e => (Heap.get?_update_other _ _ (Ne.symm b2)).trans (kp b o b1 e)
  | succ r ih =>
    intro j s vb c er ej gs gp gB gR
    have lj : j + 1 < n := by omega
    refine codeAny_builtin PySem.F.entry_min_loop ?_
    rw [Around.under_plainId PySem.F.plain_min_loop _]
    show wpAny _ A.in1 (seqItems? (.ref B) >>= _) _ _ s
    refine wpAny_bind (wpAny_seqItems gB rfl ?_)
    show wpAny _ A.in1 (tryCatch (pyNext (.ref J)) _ >>= _) _ _ s
    refine wpAny_bind (wpAny_tryCatch (V.item (j + 1) s _ _ lj gs fun v h1 t1 gv gs1 kp => ?_))
    have gB1 := kp B _ nW gB
    show wpAny _ A.in1 (tryCatch (holding [v, v] (richCompare .Lt v vb >>= _)) _ >>= _) _ _ _
    refine wpAny_bind (wpAny_tryCatch (wpAny_holding (wpAny_bind (cm (j + 1) (PySem.argBest lt j) v vb _ _ _ gv gp ?_))))
    refine wpAny_bind (wpAny_holding (wpAny_truthy_bool (wpAny_bind (wpAny_letGo (wpAny_pure ?_)))))
    cases eb : lt (j + 1) (PySem.argBest lt j) with
    | true =>
      simp only [if_true]
      refine wpAny_bind (wpAny_updateSeq gB1 rfl (wpAny_bind (wpAny_letGo ?_)))
      rw [nm]
      refine wpAny_pure ⟨plainId_quiet PySem.F.plain_min_loop _, ih (j + 1) _ v _ (by omega) lj (V.frame _ _ _ gs1 fun b bf o e => ?_) (by simp only [PySem.argBest, eb, if_true]; exact gv) (Heap.get?_update_self _ gB1 rfl) fun v2 h2 t2 g2 kp2 => ?_⟩
      · exact (Heap.get?_update_other _ _ (fun z : B = b => nB (by rw [z]; exact bf))).trans e
      · exact gR v2 h2 t2 g2 fun b o b1 b2 e => kp2 b o b1 b2 ((Heap.get?_update_other _ _ (Ne.symm b2)).trans (kp b o b1 e))
    | false =>
      simp only [Bool.false_eq_true, if_false]
      refine wpAny_bind (wpAny_letGo ?_)
      rw [nm]
      refine wpAny_pure ⟨plainId_quiet PySem.F.plain_min_loop _, ih (j + 1) _ vb c (by omega) lj gs1 (by simp only [PySem.argBest, eb, Bool.false_eq_true, if_false]; exact gp) gB1 fun v2 h2 t2 g2 kp2 => ?_⟩
      exact gR v2 h2 t2 g2 fun b o b1 b2 e => kp2 b o b1 b2 (kp b o b1 e)
theorem loop_first (V : PySem.Walks prog w A.in1 J fp wr n P St) (lt : Nat → Nat → Bool) (cm : PySem.CmpOf prog w A.in1 .Lt P lt) (dv : Value) (B : Addr) (nB : B ∉ fp) {s : Shared} {c : Nat} (gs : St 0 s.heap)
    (gB : s.heap.get? B = some { cls := .type "list", dict := none, data := .seq #[] c, slots := #[] })
    (g0 : n = 0 → ∀ h' tk, (∀ b o, b ∉ wr → b ≠ B → s.heap.get? b = some o → h'.get? b = some o) → R (.ok (.ret dv)) { s with heap := h', toks := tk })
    (gR : 0 < n → ∀ v h' tk, P (PySem.argBest lt (n - 1)) v → (∀ b o, b ∉ wr → b ≠ B → s.heap.get? b = some o → h'.get? b = some o) → R (.ok (.ret v)) { s with heap := h', toks := tk }) :
    codeAny (model prog w) A (.builtin "min.loop" ⟨[.ref J, .none, .ref B], [((("default" : Str)), dv)]⟩) R s := by
  have nW : B ∉ wr := fun z => nB (V.sub _ z)
  refine codeAny_builtin PySem.F.entry_min_loop ?_
  rw [Around.under_plainId PySem.F.plain_min_loop _]
  show wpAny _ A.in1 (seqItems? (.ref B) >>= _) _ _ s
  refine wpAny_bind (wpAny_seqItems gB rfl ?_)
  show wpAny _ A.in1 (tryCatch (pyNext (.ref J)) _ >>= _) _ _ s
  rcases Nat.eq_zero_or_pos n with e0 | h0
  · refine wpAny_bind (wpAny_tryCatch (V.done s _ _ (e0 ▸ gs) fun h1 t1 kp => ?_))
    show wpAny _ A.in1 (rule _ >>= _) _ _ _
    exact wpAny_bind (wpAny_rule (wpAny_pure (g0 e0 h1 t1 fun b o b1 _ e => kp b o b1 e)))
  · refine wpAny_bind (wpAny_tryCatch (V.item 0 s _ _ h0 gs fun v h1 t1 gv gs1 kp => ?_))
    have gB1 := kp B _ nW gB
    show wpAny _ A.in1 (updateSeq B (fun _ => #[v, v]) >>= _) _ _ _
    refine wpAny_bind (wpAny_updateSeq gB1 rfl ?_)
    rw [nm]
    refine wpAny_pure ⟨plainId_quiet PySem.F.plain_min_loop _, loop_on V lt cm _ B nB _ 0 _ v _ rfl h0 (V.frame _ _ _ gs1 fun b bf o e => ?_) gv (Heap.get?_update_self _ gB1 rfl) fun v2 h2 t2 g2 kp2 => ?_⟩
    · exact (Heap.get?_update_other _ _ (fun z : B = b => nB (by rw [z]; exact bf))).trans e
    · exact gR h0 v2 h2 t2 g2 fun b o b1 b2 e => kp2 b o b1 b2 ((Heap.get?_update_other _ _ (Ne.symm b2)).trans (kp b o b1 e))
end
theorem args_md (a v : Value) : argsOk "min" ⟨[a], [((("default" : Str)), v)]⟩ := by unfold argsOk; kernel_rfl
section
variable {prog : Program} {w : World} {A : Around} {E : Value → Shared → Prop} {s : Shared}
theorem call_md {l : Addr} {its : List Value} {ns : List Int} {dv : Value} {Q : Value → Shared → Prop} (hh : A.handled = none) (hl : s.heap.IsList l its.toArray) (hi : IntsAre its ns)
    (g0 : ns = [] → ∀ h' tk, (∀ b o, s.heap.get? b = some o → h'.get? b = some o) → Q dv { s with heap := h', toks := tk })
    (gR : ∀ h' tk M t', (∀ b o, s.heap.get? b = some o → h'.get? b = some o) → M ∈ ns → (∀ a, a ∈ ns → M ≤ a) → Q (.int M t') { s with heap := h', toks := tk }) :
    wpAny (model prog w) A (call (.builtin "min") [.ref l] [((("default" : Str)), dv)]) Q E s := by
  obtain ⟨xs, e⟩ := hi.allInts.items
  have hn : PySem.numsOf (PySem.intItems xs).toList = ns := by rw [← e]; exact hi.numsOf
  rw [PySem.nums_intItems] at hn
  subst hn
  rw [e] at hl
  refine PyProof.Rows.kmk_tree PySem.F.kind_min PySem.F.plain_min PySem.F.entry_min (args_md _ _) ?_
  show wpAny _ A.in1 (Builtin.Builtins.bindParams "min" ["key", "default"] 0 ⟨[], [((("default" : Str)), dv)]⟩ >>= _) _ _ s
  refine wpAny_bind (PySem.wpAny_of_eq (show Builtin.Builtins.bindParams "min" ["key", "default"] 0 ⟨[], [((("default" : Str)), dv)]⟩ = pure [none, some dv] from rfl) ?_)
  refine wpAny_bind (wpAny_pure (wpAny_bind (PySem.iter_intList hl fun s2 e2 st hfp nl => ?_)))
  subst e2
  refine wpAny_bind (PySem.wpAny_newObj_type ?_)
  have nB : (s.heap.push { cls := .type "list_iterator", data := .fields #[.ref l, .int 0 0] }).objs.size ∉ [s.heap.objs.size, l] := fun z => Nat.lt_irrefl _ (hfp _ z)
  have V := PySem.Walks.list (prog := prog) (w := w) (A := A.in1) hh s.heap.objs.size l nl (PySem.intItems xs)
  rw [nm]
  have old : ∀ h' : PySem.Heap, (∀ b o, b ∉ [s.heap.objs.size] → b ≠ (s.heap.push { cls := .type "list_iterator", data := .fields #[.ref l, .int 0 0] }).objs.size → ((s.heap.push { cls := .type "list_iterator", data := .fields #[.ref l, .int 0 0] }).push { cls := .type "list", data := .seq #[] }).get? b = some o → h'.get? b = some o) → ∀ b o, s.heap.get? b = some o → h'.get? b = some o := fun h' hk b o e => by
    have lb := PySem.Heap.lt_size e
    have e1 := Heap.get?_push_of_some ({ cls := .type "list_iterator", data := .fields #[.ref l, .int 0 0] } : Obj) e
    refine hk b o (fun z => Nat.ne_of_lt lb (List.mem_singleton.mp z)) (Nat.ne_of_lt (PySem.Heap.lt_size e1)) (Heap.get?_push_of_some _ e1)
  refine wpAny_pure ⟨plainId_quiet PySem.F.plain_min_loop _, loop_first V (fun i j => decide (PySem.numAt xs i < PySem.numAt xs j)) (PySem.CmpOf.ints_lt (PySem.numAt xs) (fun _ _ => PySem.intItems_at)) dv _ nB (V.frame _ _ _ st fun b _ o e => Heap.get?_push_of_some _ e) (Heap.get?_push_size _ rfl) (fun e0 h' tk hk => ?_) (fun h0 v h' tk hP hk => ?_)⟩
  · have ez : xs.size = 0 := by simpa [PySem.intItems] using e0
    exact g0 (by rw [show xs = #[] from Array.eq_empty_of_size_eq_zero ez]; rfl) h' tk (old h' hk)
  · have hz : 0 < xs.size := by simpa [PySem.intItems] using h0
    have hP2 : (PySem.intItems xs)[PySem.argBest (fun i j => decide (PySem.numAt xs i < PySem.numAt xs j)) (xs.size - 1)]? = some v := by simpa [PySem.intItems] using hP
    obtain ⟨t, rfl⟩ := PySem.intItems_at hP2
    obtain ⟨b1, b2⟩ := PySem.argBest_lt (PySem.numAt xs) (xs.size - 1)
    refine gR h' tk _ t (old h' hk) ?_ fun a ha => ?_
    · rw [PySem.numAt_eq]
      exact PySem.getD_mem (by rw [List.length_map, Array.length_toList]; omega)
    · obtain ⟨j, hj, rfl⟩ := PySem.mem_getD ha
      rw [List.length_map, Array.length_toList] at hj
      rw [← PySem.numAt_eq]
      exact b2 j (by omega)
end
end Mn
namespace Mn
open PySem PySem.Spec PyProof.Rows L2 Bx TL
def rMinD (K : PySem.W.Frag) : List V → List V → Hp → VK → Prop := fun vs zs H Q => ∃ (a : Addr) (ns : List Int) (v : V), vs = [V.ref a] ∧ zs = [v] ∧ SqL K H a (ns.map V.int) ∧ (ns = [] → Q v H) ∧ (∀ m, m ∈ ns → (∀ y, y ∈ ns → m ≤ y) → Q (.int m) H)
theorem crk_minD {X : Cx} (hc : X.calm = true) : CallRK X (.builtin "min") [((("default" : Str)))] (rMinD X.K) := by
  intro pins s σ H xs zs us ws Q I r rz h
  obtain ⟨a, ns, v, rfl, rfl, hs, q0, q1⟩ := h
  obtain ⟨its, rv, hl, _⟩ := I.list hs
  rw [Vals.ref1 r]
  cases rz with
  | cons rk rr =>
    cases rr
    exact call_md (I.ok.hd hc) hl.isList rv.ints (fun e0 h' tk hk => ⟨v, H, I.kept hk, rk, q0 e0⟩) fun h' tk m t' hk h1 h2 => ⟨.int _, H, I.kept hk, ⟨_, rfl⟩, q1 m h1 h2⟩
/-- min(e, default=d) -/
theorem pe_minD {X : Cx} {e : Expr} {kws : List Keyword} {t tk : TA} {p pos : Pos} (hc : X.calm = true) (hg : Gl X "min") (hm : X.mg "min" = none) (ha : PA X [e] t) (hk : PK X kws tk)
    (he : backTo pos (starEach [e] X.env) = (false, eval e X.env) :: backTo pos (starEach [] X.env) := by rfl) (hpl : (backTo pos (starEach [e] X.env)).any (·.1) = false := by rfl)
    (hall : (backToKw pos (keywordEach kws X.env)).all (·.1.isSome) = true := by rfl) (hnone : (backToKw pos (keywordEach kws X.env)).any (·.1.isNone) = false := by rfl) (hks : (backToKw pos (keywordEach kws X.env)).filterMap (·.1) = [((("default" : Str)))] := by rfl) :
    PE X (.Call (.Name "min" p) [e] kws pos) (tCKw (rMinD X.K) t tk) := pe_callBK (crk_minD hc) hg hm rfl ha hk (he := he) (hpl := hpl) (hall := hall) (hnone := hnone) (hks := hks)
end Mn
namespace K14
local macro_rules | `(tactic| walk_at "rd") => `(tactic| repeat (first | refine ⟨rfl, ?_⟩ | refine ⟨_, rfl, ?_⟩ | refine ⟨_, _, rfl, rfl, ?_⟩ | refine ⟨⟨_, rfl⟩, ?_⟩))
open PySem PySem.Spec PyProof.Rows L2 Bx TL Dx Zx Ow Sup NdefX Px
def topS (i : Nat) : Stmt := PySem.Challenge.pw_shadowlinks_k14_step_constraints.main.body.getD i (.Pass ⟨0, 0, 0, 0⟩)
abbrev s_Kind_is_valid : Stmt := inClass (topS 5) 2
abbrev n_Kind_is_valid : List Str := ["self", "names", "constraint", "name"]
theorem sc_Kind_is_valid : FnScope n_Kind_is_valid ["self", "names", "constraint"] (defScope s_Kind_is_valid) := ⟨rfl, rfl, rfl, by decide +kernel, rfl, by decide +kernel, by decide +kernel⟩
abbrev s_merge_names : Stmt := topS 7
abbrev n_merge_names : List Str := ["lists", "names", "name"]
theorem sc_merge_names : FnScope n_merge_names ["lists"] (defScope s_merge_names) := ⟨rfl, rfl, rfl, by decide +kernel, rfl, by decide +kernel, by decide +kernel⟩
abbrev s_replace_names : Stmt := topS 8
abbrev n_replace_names : List Str := ["names", "table", "name"]
theorem sc_replace_names : FnScope n_replace_names ["names", "table"] (defScope s_replace_names) := ⟨rfl, rfl, rfl, by decide +kernel, rfl, by decide +kernel, by decide +kernel⟩
abbrev s_satisfies : Stmt := topS 10
abbrev n_satisfies : List Str := ["kind", "theory", "assignment", "constraint"]
theorem sc_satisfies : FnScope n_satisfies ["kind", "theory", "assignment"] (defScope s_satisfies) := ⟨rfl, rfl, rfl, by decide +kernel, rfl, by decide +kernel, by decide +kernel⟩
abbrev s_Steps_names_in : Stmt := inClass (topS 12) 1
abbrev n_Steps_names_in : List Str := ["self", "constraint", "side"]
theorem sc_Steps_names_in : FnScope n_Steps_names_in ["self", "constraint"] (defScope s_Steps_names_in) := ⟨rfl, rfl, rfl, by decide +kernel, rfl, by decide +kernel, by decide +kernel⟩
abbrev s_Steps_is_valid : Stmt := inClass (topS 12) 2
abbrev n_Steps_is_valid : List Str := ["self", "names", "constraint", "__class__", "x", "y", "_"]
theorem ns_Steps_is_valid : NScope n_Steps_is_valid ["self", "names", "constraint"] [("__class__" : Str)] (defScope s_Steps_is_valid) := nscope_by (by decide +kernel)
abbrev s_Steps_holds : Stmt := inClass (topS 12) 3
abbrev n_Steps_holds : List Str := ["self", "constraint", "assignment", "x", "y", "c"]
theorem sc_Steps_holds : FnScope n_Steps_holds ["self", "constraint", "assignment"] (defScope s_Steps_holds) := ⟨rfl, rfl, rfl, by decide +kernel, rfl, by decide +kernel, by decide +kernel⟩
abbrev s_Steps_contradiction : Stmt := inClass (topS 12) 4
abbrev n_Steps_contradiction : List Str := ["self"]
theorem sc_Steps_contradiction : FnScope n_Steps_contradiction ["self"] (defScope s_Steps_contradiction) := ⟨rfl, rfl, rfl, by decide +kernel, rfl, by decide +kernel, by decide +kernel⟩
abbrev s_Steps_rename : Stmt := inClass (topS 12) 5
abbrev n_Steps_rename : List Str := ["self", "theory", "table", "renamed", "names", "constraints", "x", "y", "c"]
theorem sc_Steps_rename : FnScope n_Steps_rename ["self", "theory", "table"] (defScope s_Steps_rename) := ⟨rfl, rfl, rfl, by decide +kernel, rfl, by decide +kernel, by decide +kernel⟩
abbrev s_Steps_lift : Stmt := inClass (topS 12) 7
abbrev n_Steps_lift : List Str := ["self", "theory", "name", "assignment", "constraints", "low", "high", "value", "x", "y", "c"]
theorem sc_Steps_lift : FnScope n_Steps_lift ["self", "theory", "name", "assignment"] (defScope s_Steps_lift) := ⟨rfl, rfl, rfl, by decide +kernel, rfl, by decide +kernel, by decide +kernel⟩
abbrev s_Steps_ground : Stmt := inClass (topS 12) 8
abbrev n_Steps_ground : List Str := ["self", "theory"]
theorem sc_Steps_ground : FnScope n_Steps_ground ["self", "theory"] (defScope s_Steps_ground) := ⟨rfl, rfl, rfl, by decide +kernel, rfl, by decide +kernel, by decide +kernel⟩
abbrev s_Steps_pin : Stmt := inClass (topS 12) 13
abbrev n_Steps_pin : List Str := ["self", "names", "assignment", "pairs", "name", "pair", "constraint"]
theorem sc_Steps_pin : FnScope n_Steps_pin ["self", "names", "assignment"] (defScope s_Steps_pin) := ⟨rfl, rfl, rfl, by decide +kernel, rfl, by decide +kernel, by decide +kernel⟩
abbrev s__value : Stmt := topS 13
abbrev n__value : List Str := ["side", "assignment"]
theorem sc__value : FnScope n__value ["side", "assignment"] (defScope s__value) := ⟨rfl, rfl, rfl, by decide +kernel, rfl, by decide +kernel, by decide +kernel⟩
abbrev s__law_source : Stmt := topS 15
abbrev n__law_source : List Str := ["_law_script", "_law_k", "_law_number"]
theorem sc__law_source : FnScope n__law_source ["_law_script", "_law_k"] (defScope s__law_source) := ⟨rfl, rfl, rfl, by decide +kernel, rfl, by decide +kernel, by decide +kernel⟩
abbrev s__law_draw : Stmt := topS 16
abbrev n__law_draw : List Str := ["_law_source_here", "_law_limit", "_law_number", "_law_mixed"]
theorem sc__law_draw : FnScope n__law_draw ["_law_source_here", "_law_limit"] (defScope s__law_draw) := ⟨rfl, rfl, rfl, by decide +kernel, rfl, by decide +kernel, by decide +kernel⟩
abbrev s__law_some : Stmt := topS 17
abbrev n__law_some : List Str := ["_law_source_here", "_law_names", "_law_most", "_law_found", "_law_name"]
theorem sc__law_some : FnScope n__law_some ["_law_source_here", "_law_names", "_law_most"] (defScope s__law_some) := ⟨rfl, rfl, rfl, by decide +kernel, rfl, by decide +kernel, by decide +kernel⟩
abbrev s__law_bound : Stmt := topS 18
abbrev n__law_bound : List Str := ["_law_source_here"]
theorem sc__law_bound : FnScope n__law_bound ["_law_source_here"] (defScope s__law_bound) := ⟨rfl, rfl, rfl, by decide +kernel, rfl, by decide +kernel, by decide +kernel⟩
abbrev s__law_constraint : Stmt := topS 19
abbrev n__law_constraint : List Str := ["_law_source_here", "_law_names", "_law_ends", "_law_x", "_law_y"]
theorem sc__law_constraint : FnScope n__law_constraint ["_law_source_here", "_law_names"] (defScope s__law_constraint) := ⟨rfl, rfl, rfl, by decide +kernel, rfl, by decide +kernel, by decide +kernel⟩
abbrev s__law_theory : Stmt := topS 20
abbrev n__law_theory : List Str := ["_law_source_here", "_law_pool", "_law_names", "_law_constraints", "_law_k"]
theorem sc__law_theory : FnScope n__law_theory ["_law_source_here"] (defScope s__law_theory) := ⟨rfl, rfl, rfl, by decide +kernel, rfl, by decide +kernel, by decide +kernel⟩
abbrev s__law_value : Stmt := topS 21
abbrev n__law_value : List Str := ["_law_values", "_law_name"]
theorem sc__law_value : FnScope n__law_value ["_law_values", "_law_name"] (defScope s__law_value) := ⟨rfl, rfl, rfl, by decide +kernel, rfl, by decide +kernel, by decide +kernel⟩
abbrev s__law_same : Stmt := topS 22
abbrev n__law_same : List Str := ["_law_actual", "_law_expected", "_law_name"]
theorem sc__law_same : FnScope n__law_same ["_law_actual", "_law_expected"] (defScope s__law_same) := ⟨rfl, rfl, rfl, by decide +kernel, rfl, by decide +kernel, by decide +kernel⟩
abbrev s__law_valid_right : Stmt := topS 23
abbrev n__law_valid_right : List Str := ["_law_source_here", "_law_names", "_law_ends", "_law_x", "_law_y", "_law_expected", "_law_constraint_here", "_law_actual", "_law_name"]
theorem sc__law_valid_right : FnScope n__law_valid_right ["_law_source_here", "_law_names"] (defScope s__law_valid_right) := ⟨rfl, rfl, rfl, by decide +kernel, rfl, by decide +kernel, by decide +kernel⟩
abbrev s__law_holds_right : Stmt := topS 24
abbrev n__law_holds_right : List Str := ["_law_source_here", "_law_names", "_law_values", "_law_name", "_law_before", "_law_x", "_law_y", "_law_difference", "_law_near", "_law_actual"]
theorem sc__law_holds_right : FnScope n__law_holds_right ["_law_source_here", "_law_names"] (defScope s__law_holds_right) := ⟨rfl, rfl, rfl, by decide +kernel, rfl, by decide +kernel, by decide +kernel⟩
abbrev s__law_rename_right : Stmt := topS 25
abbrev n__law_rename_right : List Str := ["_law_source_here", "_law_theory_here", "_law_kept", "_law_wide", "_law_start", "_law_step", "_law_order", "_law_free", "_law_table", "_law_moved", "_law_k", "_law_before", "_law_names", "_law_constraints", "_law_name", "_law_c"]
theorem sc__law_rename_right : FnScope n__law_rename_right ["_law_source_here", "_law_theory_here"] (defScope s__law_rename_right) := ⟨rfl, rfl, rfl, by decide +kernel, rfl, by decide +kernel, by decide +kernel⟩
abbrev s__law_pin_right : Stmt := topS 26
abbrev n__law_pin_right : List Str := ["_law_source_here", "_law_names", "_law_values", "_law_expected", "_law_name", "_law_actual", "_law_constraint_here", "_law_value_here"]
theorem sc__law_pin_right : FnScope n__law_pin_right ["_law_source_here", "_law_names"] (defScope s__law_pin_right) := ⟨rfl, rfl, rfl, by decide +kernel, rfl, by decide +kernel, by decide +kernel⟩
abbrev s__law_ground_right : Stmt := topS 27
abbrev n__law_ground_right : List Str := ["_law_source_here", "_law_bounds", "_law_actual", "_law_k", "_law_bound_here"]
theorem sc__law_ground_right : FnScope n__law_ground_right ["_law_source_here"] (defScope s__law_ground_right) := ⟨rfl, rfl, rfl, by decide +kernel, rfl, by decide +kernel, by decide +kernel⟩
abbrev s__law_first : Stmt := topS 28
abbrev n__law_first : List Str := ["_law_theory_here", "_law_name", "_law_values", "_law_lows", "_law_highs", "_law_constraint_here", "_law_high", "_law_value_here"]
theorem sc__law_first : FnScope n__law_first ["_law_theory_here", "_law_name", "_law_values"] (defScope s__law_first) := ⟨rfl, rfl, rfl, by decide +kernel, rfl, by decide +kernel, by decide +kernel⟩
abbrev s__law_lifted : Stmt := topS 29
abbrev n__law_lifted : List Str := ["_law_theory_here", "_law_name", "_law_values", "_law_expected", "e", "_law_actual"]
theorem sc__law_lifted : FnScope n__law_lifted ["_law_theory_here", "_law_name", "_law_values", "_law_expected"] (defScope s__law_lifted) := ⟨rfl, rfl, rfl, by decide +kernel, rfl, by decide +kernel, by decide +kernel⟩
abbrev s__law_lift_right : Stmt := topS 30
abbrev n__law_lift_right : List Str := ["_law_source_here", "_law_theory_here", "_law_name", "_law_values", "_law_other", "_law_given", "_law_side", "_law_asked", "_law_before", "_law_c"]
theorem sc__law_lift_right : FnScope n__law_lift_right ["_law_source_here", "_law_theory_here"] (defScope s__law_lift_right) := ⟨rfl, rfl, rfl, by decide +kernel, rfl, by decide +kernel, by decide +kernel⟩
abbrev s_law : Stmt := topS 31
abbrev n_law : List Str := ["_law_script", "_law_theory_here", "_law_source_here", "_law_k"]
theorem sc_law : FnScope n_law ["_law_script"] (defScope s_law) := ⟨rfl, rfl, rfl, by decide +kernel, rfl, by decide +kernel, by decide +kernel⟩
abbrev emp : Str := Str.ofString ""
/-- the names that a step mentions -/
def ends (x y : Str) : List Str := [x, y].filter fun z => decide (z ≠ emp)
theorem ends_mem {x y z : Str} : z ∈ ends x y ↔ (z = x ∨ z = y) ∧ z ≠ emp := by
  unfold ends
  rw [List.mem_filter, decide_eq_true_iff]
  simp
theorem ne_str (a b : Str) : (!decide (V.str a = V.str b)) = decide (a ≠ b) := by
  by_cases h : a = b
  · subst h
    simp
  · rw [decide_eq_false (fun z => h (V.str.inj z)), decide_eq_true h]
    rfl
theorem take_filter {p : Str → Bool} {l : List Str} {i : Nat} {y : Str} (h : l[i]? = some y) : ((l.take (i + 1)).filter p) = (l.take i).filter p ++ [y].filter p := by
  rw [List.take_add_one, h, List.filter_append]
  rfl
section
variable {P : Program} {w : World} {K : PySem.W.Frag} {mg : Str → Option Value} {base : Heap}
theorem slice_of {H : Hp} {ca : Addr} {xs : List V} {k : Nat} {z : Int} (ez : z = (k : Int)) (hk : k ≤ xs.length) (hc : SqT K H ca xs) {Z : VK} (q : ∀ c' H', Same H H' → SqT K H' c' (xs.take k) → Z (.ref c') H') : rSlA K (.ref ca) none (some z) H Z := by
  subst ez
  refine ⟨ca, xs, rfl, hc, fun h => ?_, fun h p np => ?_⟩
  · have e : min k xs.length = xs.length := by
      rw [← HT.sIx_nat xs.length xs.length k]
      exact h.2
    refine q ca H (Same.refl H) ?_
    rw [List.take_of_length_le (by omega)]
    exact hc
  · refine q p _ (same_new np) ?_
    have e : cutV xs none (some (k : Int)) = xs.take k := by
      unfold cutV
      rw [HT.sIx_nat, HT.sIx_none, List.drop_zero, Nat.sub_zero, Nat.min_eq_left hk]
    rw [e]
    exact sqt upd_same
/-- the constraint at p -/
def CtrAt (K : PySem.W.Frag) (H : Hp) (p : Addr) (x y : Str) (c : Int) : Prop := SqT K H p [.str x, .str y, .int c]
@[irreducible] def spNIn (K : PySem.W.Frag) : Sp := fun vs H Q _ => ∃ (a p : Addr) (x y : Str) (c : Int), vs = [.ref a, .ref p] ∧ CtrAt K H p x y c ∧ ∀ r H', Same H H' → H r = none → H' r = some (.tup ((ends x y).map V.str)) → Q (.ref r) H'
theorem ok_names_in {f : Addr} {fd : FuncData} (F : Fun K "names_in" "Steps.names_in" s_Steps_names_in f fd) (m_tuple : mg "tuple" = none) : FnOk P w K mg base CX0 1 f fd ["self", "constraint"] (spNIn K) := by
  refine F.ok sc_Steps_names_in (fun vs H Q E h => ?_) (fun cdv A outer s H vs Q E hr h => ?_)
  · unfold spNIn at h
    obtain ⟨a, p, x, y, c, rfl, _⟩ := h
    rfl
  · unfold spNIn at h
    obtain ⟨a, p, x, y, c, rfl, hp, q⟩ := h
    refine ⟨_, (pss_one (ps_ret (pe_callTy (T := "tuple") call_tuple_of (by rfl) m_tuple (by decide +kernel) (pa_cons (pe_lc (own := [("side", 2)]) rfl sc_Steps_names_in.nd (pi_tup (pe_slice sl_tupA (pv 1) po_none (po_some pe_int))) (blkOk_by (N := n_Steps_names_in) (sc := defScope s_Steps_names_in) (by decide +kernel)) (fun _ _ _ _ _ => pg_name (i := 2) sc_Steps_names_in.nd rfl (Or.inl rfl)) (fun _ _ _ _ _ => pts_one (pt_cmpR op_ne (pv 2) pe_str (nomark _))) (fun _ _ _ _ _ => (pv 2))) pa_nil)))), ?_⟩
    walk_at "rd"
    refine slice_of (k := 2) rfl (by show 2 ≤ 3; omega) hp fun t H1 s1 ht => ?_
    have ht : SqT K H1 t ([x, y].map V.str) := ht
    refine ⟨t, rfl, ⟨_, ht⟩, fun L nL => ?_⟩
    refine lc_it walk_tup (fun i H' => H' = upd H1 L (.lst ((([x, y].take i).filter fun z => decide (z ≠ emp)).map V.str))) rfl (fun i H' _ e => e ▸ Bx.Same.tup (same_new nL) ht) ?_ ?_
    · rintro i v H4 H4' hi rfl ⟨rfl, hx⟩
      obtain ⟨z, hz, rfl⟩ := at_map (l := [x, y]) hx
      refine ⟨rfl, ?_⟩
      walk_at "rd"
      refine ite2 (fun h6 => ?_) (fun h6 => ?_)
      · have hne : decide (z ≠ emp) = true := by rw [← ne_str]; exact h6
        walk_at "rd"
        refine ⟨_, upd_same, ?_, ?_⟩
        · rw [List.length_map]
          exact szl (Nat.lt_of_le_of_lt (Nat.le_trans (List.length_filter_le _ _) (List.length_take_le' i [x, y])) (by show 2 < 100000; omega))
        · rw [upd_upd, take_filter hz, show [z].filter (fun z => decide (z ≠ emp)) = [z] by rw [List.filter_cons, if_pos hne, List.filter_nil], List.map_append]
          rfl
      · have hne : ¬ decide (z ≠ emp) = true := by rw [← ne_str]; exact h6
        rw [take_filter hz, show [z].filter (fun z => decide (z ≠ emp)) = [] by rw [List.filter_cons, if_neg hne, List.filter_nil], List.append_nil]
    rintro H4 rfl
    have sM := same_new nL (o := .lst ((([x, y].take ([x, y].map V.str).length).filter fun z => decide (z ≠ emp)).map V.str))
    have hM : (upd H1 L (.lst ((([x, y].take ([x, y].map V.str).length).filter fun z => decide (z ≠ emp)).map V.str))) L = some (.lst ((ends x y).map V.str)) := upd_same
    generalize upd H1 L (.lst ((([x, y].take ([x, y].map V.str).length).filter fun z => decide (z ≠ emp)).map V.str)) = H4 at sM hM ⊢
    walk_at "rd"
    refine ⟨L, _, rfl, .inl ⟨sq hM, fun r nr => ?_⟩⟩
    have s2 := Same.trans s1 sM
    exact q r _ (Same.trans s2 (same_new nr)) (s2.free nr) upd_same
/-- Kind's: all names that are mentioned stand among these -/
@[irreducible] def spKV (K : PySem.W.Frag) (C : Addr) : Sp := fun vs H Q _ => ∃ (a dx t p : Addr) (fs : List (Str × V)) (ns : List Str) (x y : Str) (c : Int), vs = [.ref a, .ref t, .ref p] ∧ H a = some (.ins C dx fs) ∧ fs.lookup ("names_in" : Str) = none ∧ SqT K H t (ns.map V.str) ∧ CtrAt K H p x y c ∧
  ∀ H', Same H H' → Q (.bl ((ends x y).all fun z => decide (z ∈ ns))) H'
theorem flat_strs (ns : List Str) : (ns.map V.str).all flatV = true := List.all_eq_true.mpr fun v hv => by
  obtain ⟨n, _, rfl⟩ := List.mem_map.mp hv
  rfl
theorem ok_kind_valid {C : Addr} {f : Addr} {fd : FuncData} (F : Fun K "is_valid" "Kind.is_valid" s_Kind_is_valid f fd) (m_all : mg "all" = none) (M_names_in : MthC P w K mg base C "names_in" 1 ["self", "constraint"] (spNIn K)) : FnOk P w K mg base CX0 2 f fd ["self", "names", "constraint"] (spKV K C) := by
  refine F.ok sc_Kind_is_valid (fun vs H Q E h => ?_) (fun cdv A outer s H vs Q E hr h => ?_)
  · unfold spKV at h
    obtain ⟨a, dx, t, p, fs, ns, x, y, c, rfl, _⟩ := h
    rfl
  · unfold spKV at h
    obtain ⟨a, dx, t, p, fs, ns, x, y, c, rfl, ha, hn, ht, hp, q⟩ := h
    refine ⟨_, (pss_one (ps_ret (pe_callB (id := "all") (cr_all rfl) (by rfl) m_all (by decide +kernel) (pa_cons (pe_lc (own := [("name", 3)]) (tt := tYes) rfl sc_Kind_is_valid.nd (pi_tup (pe_mth M_names_in (hr.mono (by decide)) (pv 0) (pa_cons (pv 2) pa_nil))) (blkOk_by (N := n_Kind_is_valid) (sc := defScope s_Kind_is_valid) (by decide +kernel)) (fun _ _ _ _ _ => pg_name (i := 3) sc_Kind_is_valid.nd rfl (Or.inl rfl)) (fun _ _ _ _ _ => pts_nil) (fun _ _ _ _ _ => (pe_cmpR (op_in_seqK (K := K) rfl) (pv 3) (pv 1) (by rfl)))) pa_nil)))), ?_⟩
    walk_at "rd"
    refine ⟨a, dx, _, rfl, ha, hn, ?_⟩
    walk_at "rd"
    show spNIn K _ _ _ _
    unfold spNIn
    refine ⟨a, p, x, y, c, rfl, hp, fun r H1 s1 nr hr1 => ?_⟩
    refine ⟨r, rfl, ⟨_, sqt hr1⟩, fun D hD => ?_⟩
    have ht1 := Bx.Same.tup s1 ht
    refine lc_it walk_tup (fun i H' => H' = upd H1 D (.lst (((ends x y).take i).map fun z => V.bl (decide (z ∈ ns))))) rfl (fun i H' _ e => e ▸ Bx.Same.tup (same_new hD) (sqt hr1)) ?_ ?_
    · rintro i v H2 H3 hi rfl ⟨rfl, hx⟩
      obtain ⟨z, hz, rfl⟩ := at_map hx
      refine ⟨rfl, ?_⟩
      walk_at "rd"
      refine ⟨t, _, rfl, .inr (Bx.Same.tup (same_new hD) ht1), rfl, flat_strs ns, ?_⟩
      rw [inV_str]
      walk_at "rd"
      refine ⟨_, upd_same, ?_, ?_⟩
      · rw [List.length_map]
        exact szl (Nat.lt_of_le_of_lt (List.length_take_le' i _) (Nat.lt_of_le_of_lt (List.length_filter_le _ _) (by show 2 < 100000; omega)))
      · rw [upd_upd, List.take_add_one, hz, List.map_append]
        rfl
    rintro H2 rfl
    have sM := same_new hD (o := .lst (((ends x y).take ((ends x y).map V.str).length).map fun z => V.bl (decide (z ∈ ns))))
    have hM : (upd H1 D (.lst (((ends x y).take ((ends x y).map V.str).length).map fun z => V.bl (decide (z ∈ ns))))) D = some (.lst (((ends x y).map fun z => decide (z ∈ ns)).map V.bl)) := by
      rw [upd_same, List.length_map, List.take_length, List.map_map]
      rfl
    generalize upd H1 D (.lst (((ends x y).take ((ends x y).map V.str).length).map fun z => V.bl (decide (z ∈ ns)))) = H2 at sM hM ⊢
    refine ⟨_, (ends x y).map (fun z => decide (z ∈ ns)), rfl, sq hM, ?_⟩
    have e2 : ((ends x y).map fun z => decide (z ∈ ns)).all id = (ends x y).all fun z => decide (z ∈ ns) := by
      rw [List.all_map]
      rfl
    rw [e2]
    exact q _ (Same.trans s1 sM)
end
end K14
namespace K14
local macro_rules | `(tactic| walk_at "rd") => `(tactic| repeat (first | refine ⟨rfl, ?_⟩ | refine ⟨_, rfl, ?_⟩ | refine ⟨_, _, rfl, rfl, ?_⟩ | refine ⟨⟨_, rfl⟩, ?_⟩))
open PySem PySem.Spec PyProof.Rows L2 Bx TL Dx Zx Ow Sup NdefX Px
section
variable {P : Program} {w : World} {K : PySem.W.Frag} {mg : Str → Option Value} {base : Heap}
/-- what a step must keep -/
def okStep (ns : List Str) (x y : Str) : Bool := ((ends x y).all fun z => decide (z ∈ ns)) && (decide (x ≠ y) || decide (x = emp))
@[irreducible] def spSV (K : PySem.W.Frag) (C : Addr) : Sp := fun vs H Q _ => ∃ (a dx t p : Addr) (fs : List (Str × V)) (ns : List Str) (x y : Str) (c : Int), vs = [.ref a, .ref t, .ref p] ∧ H a = some (.ins C dx fs) ∧ fs.lookup ("names_in" : Str) = none ∧ SqT K H t (ns.map V.str) ∧ CtrAt K H p x y c ∧
  ∀ H', Same H H' → Q (.bl (okStep ns x y)) H'
abbrev nf_SV (cc cda : Addr) : NF := ⟨"is_valid", "Steps.is_valid", defArgs s_Steps_is_valid, defBody s_Steps_is_valid, defScope s_Steps_is_valid, [(("__class__" : Str), cc)], cda⟩
theorem ok_valid {fI cc cda C g : Addr} {oc kV doc pm ct : Value} {od an : Option Addr} {osl : Array (Option Value)}
    (lk : K.lookup fI = some ⟨oc, od, .func (PySem.W.fnX "is_valid" "Steps.is_valid" (defArgs s_Steps_is_valid) (defBody s_Steps_is_valid) (defScope s_Steps_is_valid) [(("__class__" : Str), cc)] .none kV doc pm an (.ref cda) ct), osl⟩) (hcd : PySem.W.codeIn K (.ref cda) "Steps.is_valid" = true)
    (hcc : ∃ cl cld csl, K.lookup cc = some ⟨cl, cld, .cell (some (.ref C)), csl⟩)
    (hco : ∃ (ccl : Value) (cdd : Option Addr) (vs : Array Value) (ccs : Array (Option Value)) (file : Str) (tf : Tok), K.lookup cda = some ⟨ccl, cdd, .fields vs, ccs⟩ ∧ vs[2]? = some (.str file tf) ∧ ((P.main.file : Str) == file) = true)
    (htop : (P.main.scope.names.lookup ("super" : Str)).isSome = false) (m_super : mg "super" = none) (hany : PySem.W.nsIn K cStatics "thirdparty.any" = some none) (T0 : SupM.SupA K C C "is_valid" g) (F0 : FnR P w K mg base CX0 2 g (spKV K C)) :
    FnOk P w K mg base CX0 4 fI (PySem.W.fnX "is_valid" "Steps.is_valid" (defArgs s_Steps_is_valid) (defBody s_Steps_is_valid) (defScope s_Steps_is_valid) [(("__class__" : Str), cc)] .none kV doc pm an (.ref cda) ct) ["self", "names", "constraint"] (spSV K C) := by
  obtain ⟨ccl, cdd, vs, ccs, file, tf, lc, hvs, hfile⟩ := hco
  obtain ⟨cl, cld, csl, lcc⟩ := hcc
  refine SupM.fn_at (F := nf_SV cc cda) (k := 3) lk hcd rfl ⟨cl, cld, csl, lcc⟩ ns_Steps_is_valid (fun vs H Q E h => ?_) (fun A outer s H vs Q E hr h => ?_)
  · unfold spSV at h
    obtain ⟨a, dx, t, p, fs, ns, x, y, c, rfl, _⟩ := h
    rfl
  · have S0 : ∀ L, SupF P K mg (envF (nf_SV cc cda) fI L) "self" C := fun L => ⟨rfl, rfl, ⟨fI, _, _, _, _, _, rfl, lk, rfl, rfl⟩, ⟨cda, ccl, cdd, _, ccs, file, tf, rfl, lc, hvs, hfile⟩, htop, ⟨cc, cl, cld, csl, rfl, lcc⟩, m_super, hany, rfl, rfl⟩
    have S0 := S0 s.heap.objs.size
    unfold spSV at h
    obtain ⟨a, dx, t, p, fs, ns, x, y, c, rfl, ha, hn, ht, hp, q⟩ := h
    refine ⟨_, (SupM.pssa_cons (SupM.PSa.of (ps_asg (pv 2) (pg_tup rfl (pgs_cons (pg_name (i := 4) ns_Steps_is_valid.nd rfl (Or.inl rfl)) (pgs_cons (pg_name (i := 5) ns_Steps_is_valid.nd rfl (Or.inl rfl)) (pgs_cons (pg_name (i := 6) ns_Steps_is_valid.nd rfl (Or.inl rfl)) pgs_nil))))))
    (SupM.pssa_one (SupM.psa_ret (SupM.pea_and (SupM.pea_sup S0 T0 F0 (hr.mono (by decide)) rfl (pa_cons (pv 1) (pa_cons (pv 2) pa_nil))) (pe_one (pe_or (pe_cmpR op_ne (pv 4) (pv 5) (nomark _)) (pe_one (pe_cmpR op_eq (pv 4) pe_str (nomark _))))))))), ?_⟩
    walk_at "rd"
    refine ⟨_, _, rfl, hp, rfl, _, _, rfl, _, _, rfl, _, _, rfl, rfl, ?_⟩
    refine ⟨a, dx, fs, rfl, ha, ?_⟩
    walk_at "rd"
    show spKV K C _ _ _ _
    unfold spKV
    refine ⟨a, dx, t, p, fs, ns, x, y, c, rfl, ha, hn, ht, hp, fun H1 s1 => ?_⟩
    have q1 := q H1 s1
    unfold okStep at q1
    refine ⟨_, rfl, ite2 (fun h0 => ?_) (fun h0 => ?_)⟩
    · rw [h0, Bool.true_and] at q1
      walk_at "rd"
      have e1 : (!decide (V.str x = V.str y)) = decide (x ≠ y) := ne_str x y
      rw [e1]
      refine ite2 (fun h1 => ?_) (fun h1 => ?_)
      · rw [h1, Bool.true_or] at q1
        exact q1
      · rw [Bool.eq_false_iff.mpr h1, Bool.false_or] at q1
        walk_at "rd"
        have e2 : decide (V.str x = V.str (Str.ofString "")) = decide (x = emp) := decide_eq_decide.mpr ⟨V.str.inj, fun e => congrArg V.str e⟩
        rw [e2]
        exact q1
    · rw [Bool.eq_false_iff.mpr h0, Bool.false_and] at q1
      exact q1
end
end K14
namespace K14
local macro_rules | `(tactic| walk_at "rd") => `(tactic| repeat (first | refine ⟨rfl, ?_⟩ | refine ⟨_, rfl, ?_⟩ | refine ⟨_, _, rfl, rfl, ?_⟩ | refine ⟨⟨_, rfl⟩, ?_⟩))
open PySem PySem.Spec PyProof.Rows L2 Bx TL Dx Zx Ow Sup NdefX Px
/-! ### assignments, constraints as values -/
abbrev As := List (Str × Int)
abbrev Ctr := Str × Str × Int
def asV (l : As) : List (Key × V) := l.map fun p => (.inr p.1, .int p.2)
def vl (l : As) (z : Str) : Int := if z = emp then 0 else ((l.find? fun p => decide (p.1 = z)).map (·.2)).getD 0
theorem val_as : ∀ (l : As) (z : Str), valV (asV l) (.inr z) = ((l.find? fun p => decide (p.1 = z)).map (·.2)).map V.int
  | [], _ => rfl
  | p :: r, z => by
    have ih := val_as r z
    by_cases e : p.1 = z
    · have e2 : ((.inr p.1 : Key), V.int p.2).1 = .inr z := congrArg Sum.inr e
      show valV (((.inr p.1 : Key), V.int p.2) :: asV r) (.inr z) = _
      rw [valV_pos e2, List.find?_cons, decide_eq_true e]
      rfl
    · have e2 : ¬ ((.inr p.1 : Key), V.int p.2).1 = .inr z := fun h => e (Sum.inr.inj h)
      show valV (((.inr p.1 : Key), V.int p.2) :: asV r) (.inr z) = _
      rw [valV_neg e2, List.find?_cons, decide_eq_false e]
      exact ih
theorem has_as {l : As} {z : Str} (h : z ∈ l.map (·.1)) (hz : z ≠ emp) : valV (asV l) (.inr z) = some (.int (vl l z)) := by
  rw [val_as]
  unfold vl
  rw [if_neg hz]
  cases e : l.find? fun p => decide (p.1 = z) with
  | none =>
    obtain ⟨p, hp, rfl⟩ := List.mem_map.mp h
    have := List.find?_eq_none.mp e p hp
    simp at this
  | some p => rfl
/-- the value of a side is known -/
def Kn (l : As) (z : Str) : Prop := z = emp ∨ z ∈ l.map (·.1)
section
variable {P : Program} {w : World} {K : PySem.W.Frag} {mg : Str → Option Value} {base : Heap}
@[irreducible] def spVal : Sp := fun vs H Q _ => ∃ (z : Str) (d : Addr) (l : As), vs = [.str z, .ref d] ∧ H d = some (.dK (asV l)) ∧ Kn l z ∧ Q (.int (vl l z)) H
theorem ok_value {f : Addr} {fd : FuncData} (F : Fun K "_value" "_value" s__value f fd) : FnOk P w K mg base CX0 1 f fd ["side", "assignment"] spVal := by
  refine F.ok sc__value (fun vs H Q E h => ?_) (fun cdv A outer s H vs Q E hr h => ?_)
  · unfold spVal at h
    obtain ⟨z, d, l, rfl, _⟩ := h
    rfl
  · unfold spVal at h
    obtain ⟨z, d, l, rfl, hd, kn, q⟩ := h
    have hu := hu_of hr
    refine ⟨_, (pss_one (ps_ret (pe_ifExp (pt_cmpR op_eq (pv 0) pe_str (nomark _)) pe_int (pe_dget hu (pv 1) (pv 0) (fun _ _ => rfl))))), ?_⟩
    walk_at "rd"
    refine ite2 (fun h0 => ?_) (fun h0 => ?_)
    · have e : z = emp := V.str.inj (of_decide_eq_true h0)
      have e2 : vl l z = 0 := by
        unfold vl
        rw [if_pos e]
      rw [e2] at q
      exact q
    · have hz : z ≠ emp := fun e => h0 (decide_eq_true (congrArg V.str e))
      have hm := kn.resolve_left hz
      walk_at "rd"
      refine ⟨_, _, rfl, ?_, q⟩
      rw [← has_as hm hz]
      exact DGet.k (k := .inr z) hd
theorem value_of {H : Hp} {z : Str} {d : Addr} {l : As} {Q : VK} {E : XK} (hd : H d = some (.dK (asV l))) (kn : Kn l z) (q : Q (.int (vl l z)) H) : spVal [.str z, .ref d] H Q E := by
  unfold spVal
  exact ⟨z, d, l, rfl, hd, kn, q⟩
def hold (l : As) (c : Ctr) : Bool := decide (vl l c.1 - vl l c.2.1 ≤ c.2.2)
@[irreducible] def spHolds (K : PySem.W.Frag) : Sp := fun vs H Q _ => ∃ (a p d : Addr) (c : Ctr) (l : As), vs = [.ref a, .ref p, .ref d] ∧ CtrAt K H p c.1 c.2.1 c.2.2 ∧ H d = some (.dK (asV l)) ∧ Kn l c.1 ∧ Kn l c.2.1 ∧ Q (.bl (hold l c)) H
theorem ok_holds {f : Addr} {fd : FuncData} (F : Fun K "holds" "Steps.holds" s_Steps_holds f fd) (C__value : Cal P w K mg base "_value" 1 ["side", "assignment"] spVal) : FnOk P w K mg base CX0 2 f fd ["self", "constraint", "assignment"] (spHolds K) := by
  refine F.ok sc_Steps_holds (fun vs H Q E h => ?_) (fun cdv A outer s H vs Q E hr h => ?_)
  · unfold spHolds at h
    obtain ⟨a, p, d, c, l, rfl, _⟩ := h
    rfl
  · unfold spHolds at h
    obtain ⟨a, p, d, ⟨x, y, c⟩, l, rfl, hp, hd, k1, k2, q⟩ := h
    refine ⟨_, (pss_cons (ps_asg (pv 1) (pg_tup rfl (pgs_cons (pg_name (i := 3) sc_Steps_holds.nd rfl (Or.inl rfl)) (pgs_cons (pg_name (i := 4) sc_Steps_holds.nd rfl (Or.inl rfl)) (pgs_cons (pg_name (i := 5) sc_Steps_holds.nd rfl (Or.inl rfl)) pgs_nil)))))
    (pss_one (ps_ret (pe_cmpR op_le (pe_op op_sub (pe_cal C__value (hr.mono (by decide)) (pa_cons (pv 3) (pa_cons (pv 2) pa_nil))) (pe_cal C__value (hr.mono (by decide)) (pa_cons (pv 4) (pa_cons (pv 2) pa_nil)))) (pv 5) (nomark _))))), ?_⟩
    walk_at "rd"
    refine ⟨_, _, rfl, hp, rfl, _, _, rfl, _, _, rfl, _, _, rfl, rfl, ?_⟩
    walk_at "rd"
    refine value_of hd k1 ?_
    walk_at "rd"
    refine value_of hd k2 ?_
    walk_at "rd"
    exact q
/-! ### renaming -/
abbrev Tb := List (Str × Str)
def tbV (t : Tb) : List (Key × V) := t.map fun p => (.inr p.1, .str p.2)
def rn (t : Tb) (z : Str) : Str := ((t.find? fun p => decide (p.1 = z)).map (·.2)).getD z
theorem val_tb : ∀ (t : Tb) (z : Str), (valV (tbV t) (.inr z)).getD (.str z) = .str (rn t z)
  | [], _ => rfl
  | p :: r, z => by
    have ih := val_tb r z
    unfold rn
    by_cases e : p.1 = z
    · have e2 : ((.inr p.1 : Key), V.str p.2).1 = .inr z := congrArg Sum.inr e
      show (valV (((.inr p.1 : Key), V.str p.2) :: tbV r) (.inr z)).getD _ = _
      rw [valV_pos e2, List.find?_cons, decide_eq_true e]
      rfl
    · have e2 : ¬ ((.inr p.1 : Key), V.str p.2).1 = .inr z := fun h => e (Sum.inr.inj h)
      show (valV (((.inr p.1 : Key), V.str p.2) :: tbV r) (.inr z)).getD _ = _
      rw [valV_neg e2, List.find?_cons, decide_eq_false e]
      exact ih
@[irreducible] def spRepl (K : PySem.W.Frag) : Sp := fun vs H Q _ => ∃ (a d : Addr) (ns : List Str) (t : Tb), vs = [.ref a, .ref d] ∧ (SqL K H a (ns.map V.str) ∨ SqT K H a (ns.map V.str)) ∧ H d = some (.dK (tbV t)) ∧ ns.length ≤ 100 ∧ ∀ r H', Same H H' → H r = none → H' r = some (.lst ((ns.map (rn t)).map V.str)) → Q (.ref r) H'
theorem ok_repl {f : Addr} {fd : FuncData} (F : Fun K "replace_names" "replace_names" s_replace_names f fd) : FnOk P w K mg base CX0 1 f fd ["names", "table"] (spRepl K) := by
  refine F.ok sc_replace_names (fun vs H Q E h => ?_) (fun cdv A outer s H vs Q E hr h => ?_)
  · unfold spRepl at h
    obtain ⟨a, d, ns, t, rfl, _⟩ := h
    rfl
  · unfold spRepl at h
    obtain ⟨a, d, ns, t, rfl, ha, hd, hl, q⟩ := h
    have hu := hu_of hr
    refine ⟨_, (pss_one (ps_ret (pe_lc (own := [("name", 2)]) (tt := tYes) rfl sc_replace_names.nd (pi_seq (pv 0)) (blkOk_by (N := n_replace_names) (sc := defScope s_replace_names) (by decide +kernel)) (fun _ _ _ _ _ => pg_name (i := 2) sc_replace_names.nd rfl (Or.inl rfl)) (fun _ _ _ _ _ => pts_nil) (fun _ _ _ _ _ => (pe_dget2 hu (pv 1) (pv 2) (pv 2) ⟨rfl, rfl, rfl, rfl⟩))))), ?_⟩
    walk_at "rd"
    refine seq_case ha fun J G wk hG D hD => ?_
    have hdD : d ≠ D := fun e => by rw [e, hD] at hd; cases hd
    refine lc_it wk (fun i H' => H' = upd H D (.lst (((ns.take i).map (rn t)).map V.str))) rfl (fun i H' _ e => e ▸ hG _ (same_new hD)) ?_ ?_
    · rintro i v H2 H3 hi rfl ⟨rfl, hx⟩
      obtain ⟨z, hz, rfl⟩ := at_map hx
      refine ⟨rfl, ?_⟩
      walk_at "rd"
      have hd2 : (upd H D (.lst (((ns.take i).map (rn t)).map V.str))) d = some (.dK (tbV t)) := by
        rw [upd_ne hdD]
        exact hd
      refine ⟨.inl ⟨_, .inl hd2⟩, ?_⟩
      walk_at "rd"
      refine ⟨_, DGet.k (k := .inr z) hd2, ?_⟩
      rw [val_tb]
      refine ⟨_, upd_same, ?_, ?_⟩
      · rw [List.length_map, List.length_map]
        exact szl (Nat.lt_of_le_of_lt (List.length_take_le' i ns) (by omega))
      · rw [upd_upd, List.take_add_one, hz, List.map_append, List.map_append]
        rfl
    rintro H2 rfl
    rw [List.length_map, List.take_length]
    exact q D _ (same_new hD) hD upd_same
end
end K14
namespace K14
local macro_rules | `(tactic| walk_at "rd") => `(tactic| repeat (first | refine ⟨rfl, ?_⟩ | refine ⟨_, rfl, ?_⟩ | refine ⟨_, _, rfl, rfl, ?_⟩ | refine ⟨⟨_, rfl⟩, ?_⟩))
open PySem PySem.Spec PyProof.Rows L2 Bx TL Dx Zx Ow Sup NdefX Px
section
variable {P : Program} {w : World} {K : PySem.W.Frag} {mg : Str → Option Value} {base : Heap}
/-! ### merge_names -/
def spMerge0 (K : PySem.W.Frag) : Sp := fun vs H Q _ => ∃ (p : Addr) (L : List (Addr × List Str)), vs = [.ref p] ∧ SqT K H p (L.map fun q => V.ref q.1) ∧ (∀ q ∈ L, SqL K H q.1 (q.2.map V.str) ∨ SqT K H q.1 (q.2.map V.str)) ∧ (L.map fun q => q.2).flatten.length ≤ 3000 ∧
  ∀ r H' ys, Same H H' → H r = none → H' r = some (.tup (ys.map V.str)) → sortedS ys = true → ys.Nodup → (∀ x, x ∈ ys ↔ x ∈ (L.map fun q => q.2).flatten) → Q (.ref r) H'
def spMerge (K : PySem.W.Frag) : Sp := fun vs H Q _ => ∃ (L : List (Addr × List Str)), vs = L.map (fun q => V.ref q.1) ∧ (∀ q ∈ L, SqL K H q.1 (q.2.map V.str) ∨ SqT K H q.1 (q.2.map V.str)) ∧ L.length ≤ 1000 ∧ (L.map fun q => q.2).flatten.length ≤ 3000 ∧
  ∀ r H' ys, Same H H' → H r = none → H' r = some (.tup (ys.map V.str)) → sortedS ys = true → ys.Nodup → (∀ x, x ∈ ys ↔ x ∈ (L.map fun q => q.2).flatten) → Q (.ref r) H'
theorem ok_merge_names {f : Addr} {fd : FuncData} (F : Fun K "merge_names" "merge_names" s_merge_names f fd) (m_set : mg "set" = none) (m_sorted : mg "sorted" = none) (m_tuple : mg "tuple" = none) : FnR P w K mg base CX0 1 f (spMerge K) := by
  have z := okStar (P := P) (w := w) (K := K) (mg := mg) (base := base) (sp := spMerge0 K) (k := 0) F sc_merge_names (fun _ _ _ _ _ _ rest => match rest with | [] => rfl | _ :: _ => rfl) (fun cdv A outer s H vs Q E hr h => ?_)
  · refine z.imp fun vs H Q E h => ?_
    obtain ⟨L, rfl, hL, hl, hn, q⟩ := h
    refine ⟨by rw [List.length_map]; exact sz (by omega), fun p np => ⟨p, L, rfl, sqt upd_same, fun x hx => (hL x hx).imp (Same.seq (same_new np)) (Bx.Same.tup (same_new np)), hn, fun r H' ys s1 n1 => q r H' ys ((same_new np).trans s1) ((same_new np).free n1)⟩⟩
  · obtain ⟨p, L, rfl, hT, hL, hn, q⟩ := h
    refine ⟨_, (pss_one (ps_ret (pe_callTy (T := "tuple") call_tuple_of (by rfl) m_tuple (by decide +kernel) (pa_cons (pe_callB (id := "sorted") (Sx.cr_sortX rfl) (by rfl) m_sorted (by decide +kernel) (pa_cons (pe_callTy (T := "set") (Sx.cr_setX rfl) (by rfl) m_set (by decide +kernel) (pa_cons (pe_lc2 (own := [("names", 1), ("name", 2)]) (vs1 := [2]) (wi1 := iSeq K (tVar 1)) (tt := tYes) (tt1 := tYes) rfl sc_merge_names.nd (pi_tup (pv 0)) (blkOk_by (N := n_merge_names) (sc := defScope s_merge_names) (by decide +kernel)) (by decide) (fun _ _ _ _ _ => pg_name (i := 1) sc_merge_names.nd rfl (Or.inl rfl)) (fun _ _ _ _ _ => pts_nil) (fun _ _ _ _ _ => (pi_seq (pv 1))) (fun _ _ _ _ _ => pg_name (i := 2) sc_merge_names.nd rfl (Or.inl rfl)) (fun _ _ _ _ _ => pts_nil) (fun _ _ _ _ _ => (pv 2))) pa_nil)) pa_nil)) pa_nil)))), ?_⟩
    walk_at "rd"
    refine ⟨⟨_, hT⟩, fun D hD => ?_⟩
    refine walk_any (walk_tup (K := K) (a := p) (xs := L.map fun q => V.ref q.1)) (fun i H' => Same H H' ∧ H' D = some (.lst (((L.take i).map fun q => q.2).flatten.map V.str))) ⟨same_new hD, by rw [upd_same]; rfl⟩ (fun i H' _ h => Bx.Same.tup h.1 hT) ?_ ?_
    · rintro i x H1 H2 hi ⟨hs, hd⟩ ⟨rfl, hx⟩
      rw [List.length_map] at hi
      obtain ⟨y, hy, rfl⟩ : ∃ y, L[i]? = some y ∧ x = .ref y.1 := by
        rw [List.getElem?_map, List.getElem?_eq_getElem hi] at hx
        exact ⟨_, List.getElem?_eq_getElem hi, (Option.some.inj hx).symm⟩
      refine ⟨rfl, ?_⟩
      have hy2 := hL y (List.mem_of_getElem? hy)
      have hfl : ((L.take (i + 1)).map fun q => q.2).flatten = ((L.take i).map fun q => q.2).flatten ++ y.2 := by
        rw [List.take_add_one, hy, List.map_append, List.flatten_append]
        simp
      have hle : ∀ j, (((L.take j).map fun q => q.2).flatten).length ≤ 3000 := fun j => by
        have e := List.take_append_drop j L
        have e2 : (L.map fun q => q.2).flatten.length = ((L.take j).map fun q => q.2).flatten.length + ((L.drop j).map fun q => q.2).flatten.length := by
          rw [← List.length_append, ← List.flatten_append, ← List.map_append, e]
        omega
      walk_at "rd"
      have hstep : ∀ (j : Nat) (x : V) (H1 : Hp), (y.2.map V.str)[j]? = some x → Same H H1 ∧ H1 D = some (.lst ((((L.take i).map fun q => q.2).flatten ++ y.2.take j).map V.str)) →
          ∃ acc, H1 D = some (.lst acc) ∧ acc.length < sizeLine ∧ Same H (upd H1 D (.lst (acc ++ [x]))) ∧ (upd H1 D (.lst (acc ++ [x]))) D = some (.lst ((((L.take i).map fun q => q.2).flatten ++ y.2.take (j + 1)).map V.str)) := by
        rintro j x H1 hj ⟨h1, h2⟩
        refine ⟨_, h2, ?_, same_at hD h1, ?_⟩
        · have e1 := hle (i + 1)
          rw [hfl, List.length_append] at e1
          rw [List.length_map, List.length_append, List.length_take]
          exact szl (by omega)
        · obtain ⟨u, hu, rfl⟩ : ∃ u, y.2[j]? = some u ∧ x = .str u := by
            rw [List.getElem?_map] at hj
            cases e : y.2[j]? with
            | none =>
              rw [e] at hj
              cases hj
            | some u =>
              rw [e] at hj
              exact ⟨u, rfl, (Option.some.inj hj).symm⟩
          rw [upd_same, List.take_add_one, hu, ← List.append_assoc, List.map_append (l₂ := (some u).toList)]
          rfl
      have hend : ∀ H1, Same H H1 ∧ H1 D = some (.lst ((((L.take i).map fun q => q.2).flatten ++ y.2.take (y.2.map V.str).length).map V.str)) → Same H H1 ∧ H1 D = some (.lst (((L.take (i + 1)).map fun q => q.2).flatten.map V.str)) := by
        rintro H1 ⟨h1, h2⟩
        rw [List.length_map, List.take_length, ← hfl] at h2
        exact ⟨h1, h2⟩
      have h0 : Same H H2 ∧ H2 D = some (.lst ((((L.take i).map fun q => q.2).flatten ++ y.2.take 0).map V.str)) := by
        rw [List.take_zero, List.append_nil]
        exact ⟨hs, hd⟩
      rcases hy2 with hl | ht
      · refine .inl ⟨⟨_, hs.seq hl⟩, walk_any walk_list (fun j H1 => Same H H1 ∧ H1 D = some (.lst ((((L.take i).map fun q => q.2).flatten ++ y.2.take j).map V.str))) h0 (fun j H' _ h => h.1.seq hl) ?_ hend⟩
        rintro j x H1 H' hj hp ⟨rfl, hx⟩
        refine ⟨rfl, ?_⟩
        walk_at "rd"
        exact hstep j x _ hx hp
      · refine .inr ⟨⟨_, Bx.Same.tup hs ht⟩, walk_any walk_tup (fun j H1 => Same H H1 ∧ H1 D = some (.lst ((((L.take i).map fun q => q.2).flatten ++ y.2.take j).map V.str))) h0 (fun j H' _ h => Bx.Same.tup h.1 ht) ?_ hend⟩
        rintro j x H1 H' hj hp ⟨rfl, hx⟩
        refine ⟨rfl, ?_⟩
        walk_at "rd"
        exact hstep j x _ hx hp
    · rintro H1 ⟨hs, hd⟩
      rw [List.length_map, List.take_length] at hd
      refine ⟨_, _, rfl, .inl (sq hd), by omega, fun p1 ys n1 hm nd hlen => ?_⟩
      refine ⟨_, _, rfl, upd_same, by omega, fun zs p2 pm hst n2 => ?_⟩
      refine ⟨_, _, rfl, .inl ⟨sq upd_same, fun r nr => ?_⟩⟩
      have s3 : Same H (upd (upd (upd H1 p1 (Sx.SetV P w p1 ys)) p2 (.lst (zs.map V.str))) r (.tup (zs.map V.str))) := ((hs.trans (same_new n1)).trans (same_new n2)).trans (same_new nr)
      refine q r _ zs s3 (((hs.trans (same_new n1)).trans (same_new n2)).free nr) upd_same hst (pm.nodup_iff.mpr nd) fun x => ?_
      rw [pm.mem_iff, hm x]
/-! ### the constraints of a theory -/
def ctD (c : Ctr) : PyData := .tuple [.str c.1, .str c.2.1, .int c.2.2]
theorem ctr_dp {H : Hp} {v : V} {c : Ctr} (h : Dp K H v (ctD c)) : ∃ p, v = .ref p ∧ CtrAt K H p c.1 c.2.1 c.2.2 := by
  obtain ⟨p, xs, rfl, hs, ha⟩ := dp_tup h
  cases ha with
  | cons h1 ha =>
    cases ha with
    | cons h2 ha =>
      cases ha with
      | cons h3 ha =>
        cases ha
        cases h1
        cases h2
        cases h3
        exact ⟨p, rfl, hs⟩
theorem dp_ctr {H : Hp} {p : Addr} {c : Ctr} (h : CtrAt K H p c.1 c.2.1 c.2.2) : Dp K H (.ref p) (ctD c) := .tup h (.cons (.str _) (.cons (.str _) (da_one (.int _))))
theorem da_at {H : Hp} : ∀ {xs : List V} {cs : List Ctr}, DpAll K H xs (cs.map ctD) → ∀ {i : Nat} {v : V}, xs[i]? = some v → ∃ c, cs[i]? = some c ∧ Dp K H v (ctD c)
  | _, [], h, i, v, e => by
    cases h
    cases e
  | _, c :: cs, h, i, v, e => by
    cases h with
    | cons h1 h2 =>
      cases i with
      | zero =>
        cases e
        exact ⟨c, rfl, h1⟩
      | succ i => exact da_at h2 e
/-- the theory at T: names ns, constraints cs -/
structure Th (K : PySem.W.Frag) (H : Hp) (T na ca : Addr) (xs : List V) (ns : List Str) (cs : List Ctr) : Prop where
  t : SqT K H T [.ref na, .ref ca]
  n : SqT K H na (ns.map V.str)
  c : SqT K H ca xs
  d : DpAll K H xs (cs.map ctD)
theorem Th.same {H H' : Hp} {T na ca : Addr} {xs : List V} {ns : List Str} {cs : List Ctr} (s : Same H H') (h : Th K H T na ca xs ns cs) : Th K H' T na ca xs ns cs := ⟨Bx.Same.tup s h.t, Bx.Same.tup s h.n, Bx.Same.tup s h.c, dpAll_same s h.d⟩
@[irreducible] def spSat (K : PySem.W.Frag) (C : Addr) : Sp := fun vs H Q _ => ∃ (a dx T na ca d : Addr) (fs : List (Str × V)) (xs : List V) (ns : List Str) (cs : List Ctr) (l : As), vs = [.ref a, .ref T, .ref d] ∧ H a = some (.ins C dx fs) ∧ fs.lookup ("holds" : Str) = none ∧ Th K H T na ca xs ns cs ∧ H d = some (.dK (asV l)) ∧ cs.length ≤ 1000 ∧
  (∀ c ∈ cs, Kn l c.1 ∧ Kn l c.2.1) ∧ ∀ H', Same H H' → Q (.bl (cs.all (hold l))) H'
theorem ok_satisfies {C : Addr} {f : Addr} {fd : FuncData} (F : Fun K "satisfies" "satisfies" s_satisfies f fd) (m_all : mg "all" = none) (M_holds : MthC P w K mg base C "holds" 2 ["self", "constraint", "assignment"] (spHolds K)) : FnOk P w K mg base CX0 3 f fd ["kind", "theory", "assignment"] (spSat K C) := by
  refine F.ok sc_satisfies (fun vs H Q E h => ?_) (fun cdv A outer s H vs Q E hr h => ?_)
  · unfold spSat at h
    obtain ⟨a, dx, T, na, ca, d, fs, xs, ns, cs, l, rfl, _⟩ := h
    rfl
  · unfold spSat at h
    obtain ⟨a, dx, T, na, ca, d, fs, xs, ns, cs, l, rfl, ha, hn, th, hd, hcl, kn, q⟩ := h
    refine ⟨_, (pss_one (ps_ret (pe_callB (id := "all") (cr_all rfl) (by rfl) m_all (by decide +kernel) (pa_cons (pe_lc (own := [("constraint", 3)]) (tt := tYes) rfl sc_satisfies.nd (pi_tup (pe_ix ix_tup (pv 1) pe_int (fun _ _ => rfl))) (blkOk_by (N := n_satisfies) (sc := defScope s_satisfies) (by decide +kernel)) (fun _ _ _ _ _ => pg_name (i := 3) sc_satisfies.nd rfl (Or.inl rfl)) (fun _ _ _ _ _ => pts_nil) (fun _ _ _ _ _ => (pe_mth M_holds (hr.mono (by decide)) (pv 0) (pa_cons (pv 3) (pa_cons (pv 2) pa_nil))))) pa_nil)))), ?_⟩
    walk_at "rd"
    refine ⟨_, _, _, _, rfl, rfl, th.t, atI_nat (j := 1) rfl, ?_⟩
    have xl : xs.length = cs.length := by rw [da_len th.d, List.length_map]
    refine ⟨ca, rfl, ⟨_, th.c⟩, fun D hD => ?_⟩
    refine lc_it walk_tup (fun i H' => H' = upd H D (.lst ((cs.take i).map fun c => V.bl (hold l c)))) rfl (fun i H' _ e => e ▸ Bx.Same.tup (same_new hD) th.c) ?_ ?_
    · rintro i v H2 H3 hi rfl ⟨rfl, hx⟩
      have sD := same_new hD (o := .lst ((cs.take i).map fun c => V.bl (hold l c)))
      obtain ⟨c, hc, dc⟩ := da_at th.d hx
      obtain ⟨p, rfl, hp⟩ := ctr_dp dc
      refine ⟨rfl, ?_⟩
      walk_at "rd"
      refine ⟨a, dx, _, rfl, sD _ _ ha, hn, ?_⟩
      walk_at "rd"
      show spHolds K _ _ _ _
      unfold spHolds
      obtain ⟨k1, k2⟩ := kn c (List.mem_of_getElem? hc)
      refine ⟨a, p, d, c, l, rfl, Bx.Same.tup sD hp, sD _ _ hd, k1, k2, ?_⟩
      refine ⟨_, upd_same, ?_, ?_⟩
      · rw [List.length_map]
        exact szl (Nat.lt_of_le_of_lt (List.length_take_le' i cs) (by omega))
      · rw [upd_upd, List.take_add_one, hc, List.map_append]
        rfl
    rintro H2 rfl
    have sM := same_new hD (o := .lst ((cs.take xs.length).map fun c => V.bl (hold l c)))
    have hM : (upd H D (.lst ((cs.take xs.length).map fun c => V.bl (hold l c)))) D = some (.lst ((cs.map (hold l)).map V.bl)) := by
      rw [upd_same, xl, List.take_length, List.map_map]
      rfl
    generalize upd H D (.lst ((cs.take xs.length).map fun c => V.bl (hold l c))) = H2 at sM hM ⊢
    refine ⟨_, cs.map (hold l), rfl, sq hM, ?_⟩
    have e2 : (cs.map (hold l)).all id = cs.all (hold l) := by
      rw [List.all_map]
      rfl
    rw [e2]
    exact q _ sM
end
end K14
namespace K14
local macro_rules | `(tactic| walk_at "rd") => `(tactic| repeat (first | refine ⟨rfl, ?_⟩ | refine ⟨_, rfl, ?_⟩ | refine ⟨_, _, rfl, rfl, ?_⟩ | refine ⟨⟨_, rfl⟩, ?_⟩))
open PySem PySem.Spec PyProof.Rows L2 Bx TL Dx Zx Ow Sup NdefX Px
section
variable {P : Program} {w : World} {K : PySem.W.Frag} {mg : Str → Option Value} {base : Heap}
/-! ### data of tuples, texts and ints: what keeps the tuples keeps them -/
mutual
def tupD : PyData → Bool
  | .str _ => true
  | .int _ => true
  | .tuple ds => tupAll ds
  | _ => false
def tupAll : List PyData → Bool
  | [] => true
  | d :: ds => tupD d && tupAll ds
end
def Tk (K : PySem.W.Frag) (H H' : Hp) : Prop := ∀ a xs, SqT K H a xs → SqT K H' a xs
theorem tk_same {H H' : Hp} (s : Same H H') : Tk K H H' := fun _ _ h => Bx.Same.tup s h
theorem Tk.trans {H H1 H2 : Hp} (a : Tk K H H1) (b : Tk K H1 H2) : Tk K H H2 := fun _ _ h => b _ _ (a _ _ h)
theorem tk_ins {H : Hp} {p C dx : Addr} {fs : List (Str × V)} {o : HO} (hp : H p = some (.ins C dx fs)) : Tk K H (upd H p o) := fun a xs h => by
  rcases h with (h | ⟨u, h⟩) | h
  · exact .inl (.inl (by rw [upd_ne fun z => by rw [z, hp] at h; cases h]; exact h))
  · exact .inl (.inr ⟨u, by rw [upd_ne fun z => by rw [z, hp] at h; cases h]; exact h⟩)
  · exact .inr h
theorem tk_lst {H : Hp} {p : Addr} {ys : List V} {o : HO} (hp : H p = some (.lst ys)) : Tk K H (upd H p o) := fun a xs h => by
  rcases h with (h | ⟨u, h⟩) | h
  · exact .inl (.inl (by rw [upd_ne fun z => by rw [z, hp] at h; cases h]; exact h))
  · exact .inl (.inr ⟨u, by rw [upd_ne fun z => by rw [z, hp] at h; cases h]; exact h⟩)
  · exact .inr h
mutual
theorem dp_tk {H H' : Hp} (tk : Tk K H H') : ∀ (d : PyData) (v : V), tupD d = true → Dp K H v d → Dp K H' v d
  | .str _, _, _, h => by
    cases h
    exact .str _
  | .int _, _, _, h => by
    cases h
    exact .int _
  | .tuple ds, _, e, h => by
    cases h with
    | tup hs ha => exact .tup (tk _ _ hs) (da_tk tk ds _ e ha)
  | .none, _, e, _ => by cases e
  | .bool _, _, e, _ => by cases e
  | .list _, _, e, _ => by cases e
  | .dict _, _, e, _ => by cases e
theorem da_tk {H H' : Hp} (tk : Tk K H H') : ∀ (ds : List PyData) (vs : List V), tupAll ds = true → DpAll K H vs ds → DpAll K H' vs ds
  | [], _, _, h => by
    cases h
    exact .nil
  | d :: ds, _, e, h => by
    have e2 : (tupD d && tupAll ds) = true := e
    rw [Bool.and_eq_true] at e2
    cases h with
    | cons h1 h2 => exact .cons (dp_tk tk d _ e2.1 h1) (da_tk tk ds _ e2.2 h2)
end
theorem tup_ctr : ∀ l : List Ctr, tupAll (l.map ctD) = true
  | [] => rfl
  | c :: l => by
    show (tupD (ctD c) && tupAll (l.map ctD)) = true
    rw [tup_ctr l]
    rfl
theorem pa_starK {X : Cx} {K0 : PySem.W.Frag} {e : Expr} {es : List Expr} {p : Pos} {te : TE} {t : TA} (hk : X.K = K0) (he : PE X e te) (hr : PA X es t) (hs : starEach (.Starred e p :: es) X.env = (true, eval e X.env) :: starEach es X.env := by rfl) : PA X (.Starred e p :: es) (StX.tStar K0 te t) := by
  subst hk
  exact StX.pa_star he hr hs
@[irreducible] def spContra (K : PySem.W.Frag) : Sp := fun vs H Q _ => ∃ a : Addr, vs = [.ref a] ∧ ∀ r H', Same H H' → H' r = some (.tup [.str emp, .str emp, .int (-1)]) → Q (.ref r) H'
theorem ok_contra {f : Addr} {fd : FuncData} (F : Fun K "contradiction" "Steps.contradiction" s_Steps_contradiction f fd) : FnOk P w K mg base CX0 1 f fd ["self"] (spContra K) := by
  refine F.ok sc_Steps_contradiction (fun vs H Q E h => ?_) (fun cdv A outer s H vs Q E hr h => ?_)
  · unfold spContra at h
    obtain ⟨a, rfl, _⟩ := h
    rfl
  · unfold spContra at h
    obtain ⟨a, rfl, q⟩ := h
    refine ⟨_, (pss_one (ps_ret (pe_tup (pa_cons pe_str (pa_cons pe_str (pa_cons (pe_un un_neg pe_int) pa_nil)))))), ?_⟩
    walk_at "rd"
    exact ⟨sz (by show 3 ≤ 100000; decide), fun r nr => q r _ (same_new nr) upd_same⟩
@[irreducible] def spGround (K : PySem.W.Frag) (C : Addr) : Sp := fun vs H Q _ => ∃ (a dx T na ca : Addr) (fs : List (Str × V)) (xs : List V) (ns : List Str) (cs : List Ctr), vs = [.ref a, .ref T] ∧ H a = some (.ins C dx fs) ∧ fs.lookup ("holds" : Str) = none ∧ Th K H T na ca xs ns cs ∧ cs.length ≤ 1000 ∧
  (∀ c ∈ cs, c.1 = emp ∧ c.2.1 = emp) ∧ (cs.all (hold []) = true → ∀ r H', Same H H' → H' r = some (.dK []) → Q (.ref r) H') ∧ (cs.all (hold []) = false → ∀ H', Same H H' → Q .non H')
theorem ok_ground {C : Addr} {f : Addr} {fd : FuncData} (F : Fun K "ground" "Steps.ground" s_Steps_ground f fd) (C_satisfies : Cal P w K mg base "satisfies" 3 ["kind", "theory", "assignment"] (spSat K C)) : FnOk P w K mg base CX0 4 f fd ["self", "theory"] (spGround K C) := by
  refine F.ok sc_Steps_ground (fun vs H Q E h => ?_) (fun cdv A outer s H vs Q E hr h => ?_)
  · unfold spGround at h
    obtain ⟨a, dx, T, na, ca, fs, xs, ns, cs, rfl, _⟩ := h
    rfl
  · unfold spGround at h
    obtain ⟨a, dx, T, na, ca, fs, xs, ns, cs, rfl, ha, hn, th, hcl, he, q1, q2⟩ := h
    refine ⟨_, (pss_one (ps_ret (pe_ifExp (pt_val (pe_cal C_satisfies (hr.mono (by decide)) (pa_cons (pv 0) (pa_cons (pv 1) (pa_cons pe_dnewK pa_nil))))) pe_dnewK pe_non))), ?_⟩
    walk_at "rd"
    intro d nd
    have sd := same_new nd (o := .dK [])
    walk_at "rd"
    show spSat K C _ _ _ _
    unfold spSat
    refine ⟨a, dx, T, na, ca, d, fs, xs, ns, cs, [], rfl, sd _ _ ha, hn, th.same sd, upd_same, hcl, fun c hc => ⟨.inl (he c hc).1, .inl (he c hc).2⟩, fun H1 s1 => ?_⟩
    have s2 := Same.trans sd s1
    refine ⟨_, rfl, ite2 (fun h0 => ?_) (fun h0 => ?_)⟩
    · intro r nr
      exact q1 h0 r _ (Same.trans s2 (same_new nr)) upd_same
    · exact q2 (Bool.eq_false_iff.mpr h0) _ s2
def rnC (t : Tb) (c : Ctr) : Ctr := (rn t c.1, rn t c.2.1, c.2.2)
@[irreducible] def spRename (K : PySem.W.Frag) : Sp := fun vs H Q _ => ∃ (a T na ca d : Addr) (xs : List V) (ns : List Str) (cs : List Ctr) (t : Tb), vs = [.ref a, .ref T, .ref d] ∧ Th K H T na ca xs ns cs ∧ H d = some (.dK (tbV t)) ∧ ns.length ≤ 20 ∧ cs.length ≤ 100 ∧
  ∀ r H' ys, Same H H' → Dp K H' (.ref r) (.tuple [.tuple (ys.map PyData.str), .tuple ((cs.map (rnC t)).map ctD)]) → sortedS ys = true → ys.Nodup → (∀ x, x ∈ ys ↔ x ∈ ns.map (rn t)) → Q (.ref r) H'
theorem ok_rename {f : Addr} {fd : FuncData} (F : Fun K "rename" "Steps.rename" s_Steps_rename f fd) (m_tuple : mg "tuple" = none) (C_merge_names : CalR P w K mg base "merge_names" 1 (spMerge K)) (C_replace_names : Cal P w K mg base "replace_names" 1 ["names", "table"] (spRepl K)) : FnOk P w K mg base CX0 2 f fd ["self", "theory", "table"] (spRename K) := by
  refine F.ok sc_Steps_rename (fun vs H Q E h => ?_) (fun cdv A outer s H vs Q E hr h => ?_)
  · unfold spRename at h
    obtain ⟨a, T, na, ca, d, xs, ns, cs, t, rfl, _⟩ := h
    rfl
  · unfold spRename at h
    obtain ⟨a, T, na, ca, d, xs, ns, cs, t, rfl, th, hd, hnl, hcl, q⟩ := h
    refine ⟨_, (pss_cons (ps_asg (pv 1) (pg_tup rfl (pgs_cons (pg_name (i := 4) sc_Steps_rename.nd rfl (Or.inl rfl)) (pgs_cons (pg_name (i := 5) sc_Steps_rename.nd rfl (Or.inl rfl)) pgs_nil))))
    (pss_cons (ps_setLc (i := 3) (own := [("x", 6), ("y", 7), ("c", 8)]) (tt := tYes) rfl sc_Steps_rename.nd rfl rfl (sw_true rfl rfl rfl (by decide +kernel)) (pi_tup (pv 5)) (blkOk_by (N := n_Steps_rename) (sc := defScope s_Steps_rename) (by decide +kernel)) (fun _ _ _ _ _ => pg_tupK (K := K) (n := 3) rfl rfl (pgs_cons (pg_name (i := 6) sc_Steps_rename.nd rfl (Or.inl rfl)) (pgs_cons (pg_name (i := 7) sc_Steps_rename.nd rfl (Or.inl rfl)) (pgs_cons (pg_name (i := 8) sc_Steps_rename.nd rfl (Or.inl rfl)) pgs_nil)))) (fun _ _ _ _ _ => pts_nil) (fun _ _ _ _ _ => (pe_tup (pa_starK (K0 := K) rfl (pe_cal C_replace_names (hr.mono (by decide)) (pa_cons (pe_lst (pa_cons (pv 6) (pa_cons (pv 7) pa_nil))) (pa_cons (pv 2) pa_nil))) (pa_cons (pv 8) pa_nil)))))
    (pss_one (ps_ret (pe_tup (pa_cons (pe_calR C_merge_names (hr.mono (by decide)) (pa_cons (pe_cal C_replace_names (hr.mono (by decide)) (pa_cons (pv 4) (pa_cons (pv 2) pa_nil))) pa_nil)) (pa_cons (pe_callTy (T := "tuple") call_tuple_of (by rfl) m_tuple (by decide +kernel) (pa_cons (pv 3) pa_nil)) pa_nil))))))), ?_⟩
    walk_at "rd"
    refine ⟨_, _, rfl, th.t, rfl, _, _, rfl, _, _, rfl, rfl, ?_⟩
    walk_at "rd"
    have xl : xs.length = cs.length := by rw [da_len th.d, List.length_map]
    refine ⟨⟨_, th.c⟩, fun D hD => ?_⟩
    refine lc_it walk_tup (fun i H' => ∃ us, H' D = some (.lst us) ∧ DpAll K H' us (((cs.take i).map (rnC t)).map ctD) ∧ us.length = i ∧ Same H H') ⟨[], upd_same, .nil, rfl, same_new hD⟩ (fun i H' _ ⟨_, _, _, _, s⟩ => Bx.Same.tup s th.c) ?_ ?_
    · rintro i v H2 H3 hi ⟨us, hu1, hda, hul, s2⟩ ⟨rfl, hx⟩
      obtain ⟨c, hc, dc⟩ := da_at th.d hx
      obtain ⟨p, rfl, hp⟩ := ctr_dp dc
      obtain ⟨x, y, z⟩ := c
      refine ⟨p, _, rfl, Bx.Same.tup s2 hp, rfl, _, _, rfl, _, _, rfl, _, _, rfl, rfl, rfl, ?_⟩
      walk_at "rd"
      refine ⟨sz (by show 2 ≤ 100000; decide), fun L nL => ?_⟩
      have sL := same_new nL (o := .lst [.str x, .str y])
      have hL : (upd H3 L (.lst [.str x, .str y])) L = some (.lst ([x, y].map V.str)) := upd_same
      generalize upd H3 L (.lst [.str x, .str y]) = H4 at sL hL ⊢
      walk_at "rd"
      show spRepl K _ _ _ _
      unfold spRepl
      refine ⟨L, d, [x, y], t, rfl, .inl (sq hL), sL _ _ (s2 _ _ hd), (by show 2 ≤ 100; decide), fun r H5 s5 nr hr5 => ?_⟩
      have sA := Same.trans sL s5
      refine ⟨r, _, rfl, .inr (sq hr5), ?_⟩
      walk_at "rd"
      refine ⟨sz (by show 3 ≤ 100000; decide), fun T2 nT2 => ?_⟩
      have sT := same_new nT2 (o := .tup [.str (rn t x), .str (rn t y), .int z])
      have eT : (upd H5 T2 (.tup [.str (rn t x), .str (rn t y), .int z])) T2 = some (.tup [.str (rn t x), .str (rn t y), .int z]) := upd_same
      have sB := Same.trans sA sT
      have hu2 := sB _ _ hu1
      have tk := tk_lst (K := K) (o := .lst (us ++ [.ref T2])) hu2
      refine ⟨us, hu2, szl (by omega), us ++ [.ref T2], upd_same, ?_, by rw [List.length_append, hul]; rfl, ?_⟩
      · rw [List.take_add_one, hc, List.map_append, List.map_append]
        refine da_app (da_tk tk _ _ (tup_ctr _) (dpAll_same sB hda)) (da_one ?_)
        exact dp_tk tk _ _ rfl (dp_ctr (c := rnC t (x, y, z)) (sqt eT))
      · intro b o hb
        rw [upd_ne (ne_of_none hb hD)]
        exact sB _ _ (s2 _ _ hb)
    rintro H2 ⟨us, hu1, hda, hul, s2⟩
    rw [xl, List.take_length] at hda
    walk_at "rd"
    show spRepl K _ _ _ _
    unfold spRepl
    refine ⟨na, d, ns, t, rfl, .inr (Bx.Same.tup s2 th.n), s2 _ _ hd, by omega, fun r H3 s3 nr hr3 => ?_⟩
    walk_at "rd"
    refine ⟨[(r, ns.map (rn t))], rfl, (fun q hq => by rw [List.mem_singleton.mp hq]; exact .inl (sq hr3)), (by show 1 ≤ 1000; decide), (by simp; omega), fun m H4 ys s4 nm hm st nd mem => ?_⟩
    have s24 := Same.trans s3 s4
    walk_at "rd"
    refine ⟨D, _, rfl, .inl ⟨sq (s24 _ _ hu1), fun ct nct => ?_⟩⟩
    have s5 := same_new nct (o := .tup us)
    refine ⟨sz (by show 2 ≤ 100000; decide), fun R nR => ?_⟩
    have s6 := same_new nR (o := .tup [.ref m, .ref ct])
    have s26 := Same.trans s24 (Same.trans s5 s6)
    refine q R _ ys (Same.trans s2 s26) (.tup (sqt upd_same) (.cons (names_dp (sqt (s6 _ _ (s5 _ _ hm)))) (da_one (.tup (sqt (s6 _ _ upd_same)) (dpAll_same s26 hda))))) st nd fun x => (mem x).trans (by simp)
end
end K14
namespace K14
local macro_rules | `(tactic| walk_at "rd") => `(tactic| repeat (first | refine ⟨rfl, ?_⟩ | refine ⟨_, rfl, ?_⟩ | refine ⟨_, _, rfl, rfl, ?_⟩ | refine ⟨⟨_, rfl⟩, ?_⟩))
open PySem PySem.Spec PyProof.Rows L2 Bx TL Dx Zx Ow Sup NdefX Px
/-- the two steps that pin z -/
def pin2 (l : As) (z : Str) : List Ctr := [(z, emp, vl l z), (emp, z, -vl l z)]
def pins (l : As) (ns : List Str) : List Ctr := (ns.map (pin2 l)).flatten
def prD (l : As) (z : Str) : PyData := .tuple ((pin2 l z).map ctD)
theorem tup_pr (l : As) : ∀ ns : List Str, tupAll (ns.map (prD l)) = true
  | [] => rfl
  | z :: r => by
    show (tupD (prD l z) && tupAll (r.map (prD l))) = true
    rw [tup_pr l r]
    rfl
theorem pins_len (l : As) : ∀ ns : List Str, (pins l ns).length = 2 * ns.length
  | [] => rfl
  | z :: r => by
    show ((pin2 l z) ++ pins l r).length = 2 * (r.length + 1)
    rw [List.length_append, pins_len l r]
    show 2 + _ = _
    omega
theorem pins_succ (l : As) {ns : List Str} {i : Nat} {z : Str} (h : ns[i]? = some z) : pins l (ns.take (i + 1)) = pins l (ns.take i) ++ pin2 l z := by
  unfold pins
  rw [List.take_add_one, h, List.map_append, List.flatten_append]
  simp
section
variable {P : Program} {w : World} {K : PySem.W.Frag} {mg : Str → Option Value} {base : Heap}
theorem da_get {H : Hp} {f : Str → PyData} : ∀ {xs : List V} {ns : List Str}, DpAll K H xs (ns.map f) → ∀ {i : Nat} {v : V}, xs[i]? = some v → ∃ c, ns[i]? = some c ∧ Dp K H v (f c)
  | _, [], h, i, v, e => by
    cases h
    cases e
  | _, c :: cs, h, i, v, e => by
    cases h with
    | cons h1 h2 =>
      cases i with
      | zero =>
        cases e
        exact ⟨c, rfl, h1⟩
      | succ i => exact da_get h2 e
@[irreducible] def spPin (K : PySem.W.Frag) : Sp := fun vs H Q _ => ∃ (a t d : Addr) (ns : List Str) (l : As), vs = [.ref a, .ref t, .ref d] ∧ SqT K H t (ns.map V.str) ∧ H d = some (.dK (asV l)) ∧ (∀ z ∈ ns, z ≠ emp ∧ z ∈ l.map (·.1)) ∧ ns.length ≤ 20 ∧
  ∀ r ca xs H', Same H H' → H' r = some (.tup [.ref t, .ref ca]) → H' ca = some (.tup xs) → DpAll K H' xs ((pins l ns).map ctD) → Q (.ref r) H'
theorem ok_pin {f : Addr} {fd : FuncData} (F : Fun K "pin" "Steps.pin" s_Steps_pin f fd) (m_tuple : mg "tuple" = none) : FnOk P w K mg base CX0 1 f fd ["self", "names", "assignment"] (spPin K) := by
  refine F.ok sc_Steps_pin (fun vs H Q E h => ?_) (fun cdv A outer s H vs Q E hr h => ?_)
  · unfold spPin at h
    obtain ⟨a, t, d, ns, l, rfl, _⟩ := h
    rfl
  · unfold spPin at h
    obtain ⟨a, t, d, ns, l, rfl, ht, hd, kn, hnl, q⟩ := h
    have hu := hu_of hr
    refine ⟨_, (pss_cons (ps_setLc (i := 3) (own := [("name", 4)]) (tt := tYes) rfl sc_Steps_pin.nd rfl rfl (sw_true rfl rfl rfl (by decide +kernel)) (pi_tup (pv 1)) (blkOk_by (N := n_Steps_pin) (sc := defScope s_Steps_pin) (by decide +kernel)) (fun _ _ _ _ _ => pg_name (i := 4) sc_Steps_pin.nd rfl (Or.inl rfl)) (fun _ _ _ _ _ => pts_nil) (fun _ _ _ _ _ => (pe_tup (pa_cons (pe_tup (pa_cons (pv 4) (pa_cons pe_str (pa_cons (pe_dget hu (pv 2) (pv 4) (fun _ _ => rfl)) pa_nil)))) (pa_cons (pe_tup (pa_cons pe_str (pa_cons (pv 4) (pa_cons (pe_un un_neg (pe_dget hu (pv 2) (pv 4) (fun _ _ => rfl))) pa_nil)))) pa_nil)))))
    (pss_one (ps_ret (pe_tup (pa_cons (pv 1) (pa_cons (pe_callTy (T := "tuple") call_tuple_of (by rfl) m_tuple (by decide +kernel) (pa_cons (pe_lc2 (own := [("pair", 5), ("constraint", 6)]) (vs1 := [6]) (wi1 := iTup K (tVar 5)) (tt := tYes) (tt1 := tYes) rfl sc_Steps_pin.nd (pi_list (pv 3)) (blkOk_by (N := n_Steps_pin) (sc := defScope s_Steps_pin) (by decide +kernel)) (by decide) (fun _ _ _ _ _ => pg_name (i := 5) sc_Steps_pin.nd rfl (Or.inl rfl)) (fun _ _ _ _ _ => pts_nil) (fun _ _ _ _ _ => (pi_tup (pv 5))) (fun _ _ _ _ _ => pg_name (i := 6) sc_Steps_pin.nd rfl (Or.inl rfl)) (fun _ _ _ _ _ => pts_nil) (fun _ _ _ _ _ => (pv 6))) pa_nil)) pa_nil)))))), ?_⟩
    walk_at "rd"
    refine ⟨⟨_, ht⟩, fun D hD => ?_⟩
    refine lc_it walk_tup (fun i H' => ∃ us, H' D = some (.lst us) ∧ DpAll K H' us ((ns.take i).map (prD l)) ∧ us.length = i ∧ Same H H') ⟨[], upd_same, .nil, rfl, same_new hD⟩ (fun i H' _ ⟨_, _, _, _, s⟩ => Bx.Same.tup s ht) ?_ ?_
    · rintro i v H2 H3 hi ⟨us, hu1, hda, hul, s2⟩ ⟨rfl, hx⟩
      obtain ⟨z, hz, rfl⟩ := at_map hx
      rw [List.length_map] at hi
      obtain ⟨z0, zm⟩ := kn z (List.mem_of_getElem? hz)
      refine ⟨rfl, ?_⟩
      walk_at "rd"
      have hd3 := s2 _ _ hd
      refine ⟨d, _, rfl, by rw [← has_as zm z0]; exact DGet.k (k := .inr z) hd3, ?_⟩
      walk_at "rd"
      refine ⟨sz (by show 3 ≤ 100000; decide), fun A1 nA1 => ?_⟩
      have g1 := same_new nA1 (o := .tup [.str z, .str emp, .int (vl l z)])
      walk_at "rd"
      refine ⟨d, _, rfl, by rw [← has_as zm z0]; exact DGet.k (k := .inr z) (g1 _ _ hd3), ?_⟩
      walk_at "rd"
      refine ⟨sz (by show 3 ≤ 100000; decide), fun A2 nA2 => ?_⟩
      have g2 := same_new nA2 (o := .tup [.str emp, .str z, .int (-vl l z)])
      refine ⟨sz (by show 2 ≤ 100000; decide), fun A3 nA3 => ?_⟩
      have g3 := same_new nA3 (o := .tup [.ref A1, .ref A2])
      have sB := Same.trans g1 (Same.trans g2 g3)
      have hu2 := sB _ _ hu1
      have tk := tk_lst (K := K) (o := .lst (us ++ [.ref A3])) hu2
      have e1 := g3 _ _ (g2 _ _ (upd_same (H := H3) (a := A1) (o := .tup [.str z, .str emp, .int (vl l z)])))
      have e2 := g3 _ _ (upd_same (H := upd H3 A1 (.tup [.str z, .str emp, .int (vl l z)])) (a := A2) (o := .tup [.str emp, .str z, .int (-vl l z)]))
      refine ⟨us, hu2, szl (by omega), us ++ [.ref A3], upd_same, ?_, by rw [List.length_append, hul]; rfl, ?_⟩
      · rw [List.take_add_one, hz, List.map_append]
        refine da_app (da_tk tk _ _ (tup_pr l _) (dpAll_same sB hda)) (da_one ?_)
        exact dp_tk tk _ _ rfl (.tup (sqt upd_same) (.cons (dp_ctr (c := (z, emp, vl l z)) (sqt e1)) (da_one (dp_ctr (c := (emp, z, -vl l z)) (sqt e2)))))
      · intro b o hb
        rw [upd_ne (ne_of_none hb hD)]
        exact sB _ _ (s2 _ _ hb)
    rintro H2 ⟨us, hu1, hda, hul, s2⟩
    rw [List.length_map] at hda hul
    rw [List.take_length] at hda
    walk_at "rd"
    refine ⟨⟨_, sq hu1⟩, fun D2 hD2 => ?_⟩
    have hD2n : H D2 = none := s2.free hD2
    refine walk_any walk_list (fun i H' => ∃ ws, H' D2 = some (.lst ws) ∧ DpAll K H' ws ((pins l (ns.take i)).map ctD) ∧ Same H2 H') ⟨[], upd_same, .nil, same_new hD2⟩ (fun i H' _ ⟨_, _, _, s⟩ => sq (s _ _ hu1)) ?_ ?_
    · rintro i v H3 H4 hi ⟨ws, hw, hwd, s3⟩ ⟨rfl, hx⟩
      obtain ⟨z, hz, dz⟩ := da_get hda hx
      refine ⟨rfl, ?_⟩
      have dz3 := dp_same s3 dz
      obtain ⟨P3, vs3, rfl, hP3, hv3⟩ := dp_tup dz3
      walk_at "rd"
      have vl3 : vs3.length = 2 := by
        rw [da_len hv3]
        rfl
      refine ⟨⟨_, hP3⟩, walk_any walk_tup (fun j H' => ∃ ws, H' D2 = some (.lst ws) ∧ DpAll K H' ws ((pins l (ns.take i) ++ (pin2 l z).take j).map ctD) ∧ Same H2 H' ∧ SqT K H' P3 vs3 ∧ DpAll K H' vs3 ((pin2 l z).map ctD)) ⟨ws, hw, by rw [List.take_zero, List.append_nil]; exact hwd, s3, hP3, hv3⟩ (fun j H' _ ⟨_, _, _, _, h, _⟩ => h) ?_ ?_⟩
      · rintro j x H5 H6 hj ⟨ws2, hw2, hwd2, s5, hP5, hv5⟩ ⟨rfl, hxj⟩
        refine ⟨rfl, ?_⟩
        walk_at "rd"
        obtain ⟨c, hc, dc⟩ := da_at hv5 hxj
        have wl : ws2.length ≤ 42 := by
          rw [da_len hwd2, List.length_map, List.length_append, pins_len, List.length_take]
          have := List.length_take_le' j (pin2 l z)
          have e : (pin2 l z).length = 2 := rfl
          omega
        have tk := tk_lst (K := K) (o := .lst (ws2 ++ [x])) hw2
        refine ⟨ws2, hw2, szl (by omega), ws2 ++ [x], upd_same, ?_, fun b o hb => ?_, tk _ _ hP5, da_tk tk _ _ (tup_ctr _) hv5⟩
        · rw [List.take_add_one, hc, ← List.append_assoc, List.map_append]
          exact da_app (da_tk tk _ _ (tup_ctr _) hwd2) (da_one (dp_tk tk _ _ rfl dc))
        · rw [upd_ne (ne_of_none hb hD2)]
          exact s5 _ _ hb
      · rintro H5 ⟨ws2, hw2, hwd2, s5, _, _⟩
        rw [vl3, List.take_of_length_le (show (pin2 l z).length ≤ 2 from Nat.le_refl 2), ← pins_succ l hz] at hwd2
        exact ⟨ws2, hw2, hwd2, s5⟩
    · rintro H3 ⟨ws, hw, hwd, s3⟩
      rw [hul, List.take_length] at hwd
      walk_at "rd"
      refine ⟨D2, _, rfl, .inl ⟨sq hw, fun ca nca => ?_⟩⟩
      have s4 := same_new nca (o := .tup ws)
      refine ⟨sz (by show 2 ≤ 100000; decide), fun R nR => ?_⟩
      have s5 := same_new nR (o := .tup [.ref t, .ref ca])
      exact q R ca ws _ (Same.trans s2 (Same.trans s3 (Same.trans s4 s5))) upd_same (s5 _ _ upd_same) (dpAll_same (Same.trans s4 s5) hwd)
end
end K14
namespace K14
local macro_rules | `(tactic| walk_at "rd") => `(tactic| repeat (first | refine ⟨rfl, ?_⟩ | refine ⟨_, rfl, ?_⟩ | refine ⟨_, _, rfl, rfl, ?_⟩ | refine ⟨⟨_, rfl⟩, ?_⟩))
open PySem PySem.Spec PyProof.Rows L2 Bx TL Dx Zx Ow Sup NdefX Px
def pls (ns : List Str) : List Str := emp :: ns
section
variable {P : Program} {w : World} {K : PySem.W.Frag} {mg : Str → Option Value} {base : Heap}
/-! ### the law's own: draws -/
theorem int_at {ns : List Int} {k : Nat} (h : k < ns.length) : atI (ns.map V.int) (k : Int) = some (V.int ns[k]) := atI_nat (by rw [List.getElem?_map, List.getElem?_eq_getElem h]; rfl)
def spSource (K : PySem.W.Frag) : Sp := fun vs H Q _ => ∃ (a : Addr) (ns : List Int) (k : Nat), vs = [.ref a, .int (k : Int)] ∧ SqL K H a (ns.map V.int) ∧ k ≤ 100 ∧ ∀ p n c, H p = none → Q (.ref p) (upd H p (.lst [.int n, .int c]))
theorem ok_source {f : Addr} {fd : FuncData} (F : Fun K "_law_source" "_law_source" s__law_source f fd) (m_len : mg "len" = none) (m_int : mg "int" = none) : FnOk P w K mg base CX0 1 f fd ["_law_script", "_law_k"] (spSource K) := by
  refine F.ok sc__law_source (fun vs H Q E h => ?_) (fun cdv A outer s H vs Q E hr h => ?_)
  · obtain ⟨a, ns, k, rfl, _⟩ := h
    rfl
  · obtain ⟨a, ns, k, rfl, hS, hk, q⟩ := h
    refine ⟨_, (pss_cons (ps_set (i := 2) sc__law_source.nd rfl (Or.inl rfl) pe_int)
    (pss_cons (ps_if (pt_cmpR op_lt (pv 1) (pe_callB call_len_seq (by rfl) m_len PySem.boot_len (pa_cons (pv 0) pa_nil)) (nomark _))
      (pss_one (ps_set (i := 2) sc__law_source.nd rfl (Or.inl rfl) (pe_callTy (T := "int") call_int1 (by rfl) m_int (by decide +kernel) (pa_cons (pe_ix ix_list (pv 0) (pv 1) (fun _ _ => rfl)) pa_nil))))
      pss_nil)
    (pss_one (ps_ret (pe_lst (pa_cons (pv 2) (pa_cons (pe_op op_add (pe_op op_mul pe_int (pv 1)) (pe_callB call_len_seq (by rfl) m_len PySem.boot_len (pa_cons (pv 0) pa_nil))) pa_nil))))))), ?_⟩
    walk_at "rd"
    refine ⟨_, _, rfl, .inl hS, ?_⟩
    walk_at "rd"
    refine ite2 (fun h0 => ?_) (fun h0 => ?_)
    · have h1 : (k : Int) < ((ns.map V.int).length : Nat) := of_decide_eq_true h0
      rw [List.length_map] at h1
      walk_at "rd"
      refine ⟨_, _, _, _, rfl, rfl, hS, int_at (k := k) (by omega), ?_⟩
      refine .inl ⟨_, rfl, ?_⟩
      walk_at "rd"
      refine ⟨.inr ⟨by omega, by omega⟩, ?_⟩
      walk_at "rd"
      refine ⟨_, _, rfl, .inl hS, ?_⟩
      walk_at "rd"
      exact ⟨sz (by show 2 ≤ 100000; decide), fun p np => q p _ _ np⟩
    · walk_at "rd"
      refine ⟨.inr ⟨by omega, by omega⟩, ?_⟩
      walk_at "rd"
      refine ⟨_, _, rfl, .inl hS, ?_⟩
      walk_at "rd"
      exact ⟨sz (by show 2 ≤ 100000; decide), fun p np => q p _ _ np⟩
theorem modb (x : Int) {k : Int} (h : 0 < k) (h2 : k ≤ 2 ^ 64) : -(2 ^ 64) < x % k ∧ x % k < 2 ^ 64 := by
  have a := Int.emod_nonneg x (show k ≠ 0 by omega)
  have b := Int.emod_lt_of_pos x h
  omega
@[irreducible] def spDraw : Sp := fun vs H Q _ => ∃ (a : Addr) (n c lim : Int), vs = [.ref a, .int lim] ∧ H a = some (.lst [.int n, .int c]) ∧ 0 < lim ∧ lim < 1073741824 ∧ ∀ r n' c', 0 ≤ r → r < lim → Q (.int r) (upd H a (.lst [.int n', .int c']))
theorem ok_draw {f : Addr} {fd : FuncData} (F : Fun K "_law_draw" "_law_draw" s__law_draw f fd) (m_int : mg "int" = none) : FnOk P w K mg base CX0 1 f fd ["_law_source_here", "_law_limit"] spDraw := by
  refine F.ok sc__law_draw (fun vs H Q E h => ?_) (fun cdv A outer s H vs Q E hr h => ?_)
  · unfold spDraw at h
    obtain ⟨a, n, c, lim, rfl, _⟩ := h
    rfl
  · unfold spDraw at h
    obtain ⟨a, n, c, lim, rfl, hA, h0, h1, q⟩ := h
    have hfm : ∀ x : Int, 0 ≤ x.fmod lim ∧ x.fmod lim < lim := fun x => by
      rw [Int.fmod_eq_emod_of_nonneg _ (by omega)]
      exact ⟨Int.emod_nonneg _ (by omega), Int.emod_lt_of_pos _ h0⟩
    refine ⟨_, (pss_cons (ps_set (i := 2) sc__law_draw.nd rfl (Or.inl rfl) (pe_ix ix_list (pv 0) pe_int (fun _ _ => rfl)))
    (pss_cons (ps_if (pt_cmpR op_ge (pv 2) (pe_op op_pow pe_int pe_int) (nomark _))
      (pss_cons (ps_asg (pe_op op_fdivN (pv 2) (pv 1)) (pg_sub (pv 0) pe_int set_list))
    (pss_one (ps_ret (pe_op op_modN (pe_callTy (T := "int") call_int1 (by rfl) m_int (by decide +kernel) (pa_cons (pv 2) pa_nil)) (pv 1)))))
      pss_nil)
    (pss_cons (ps_asg (pe_op op_add (pe_ix ix_list (pv 0) pe_int (fun _ _ => rfl)) pe_int) (pg_sub (pv 0) pe_int set_list))
    (pss_cons (ps_set (i := 3) sc__law_draw.nd rfl (Or.inl rfl) (pe_op op_mod (pe_callTy (T := "int") call_int1 (by rfl) m_int (by decide +kernel) (pa_cons (pe_op op_add (pe_op op_add (pe_op op_mul (pv 2) pe_int) (pe_op op_mul (pe_ix ix_list (pv 0) pe_int (fun _ _ => rfl)) pe_int)) pe_int) pa_nil)) pe_int))
    (pss_cons (ps_set (i := 3) sc__law_draw.nd rfl (Or.inl rfl) (pe_op op_mod (pe_callTy (T := "int") call_int1 (by rfl) m_int (by decide +kernel) (pa_cons (pe_op op_add (pe_op op_add (pe_op op_mul (pv 3) (pv 3)) (pv 2)) (pe_op op_mul (pe_ix ix_list (pv 0) pe_int (fun _ _ => rfl)) pe_int)) pa_nil)) pe_int))
    (pss_cons (ps_set (i := 3) sc__law_draw.nd rfl (Or.inl rfl) (pe_op op_mod (pe_callTy (T := "int") call_int1 (by rfl) m_int (by decide +kernel) (pa_cons (pe_op op_add (pe_op op_add (pe_op op_mul (pv 3) (pv 3)) (pe_op op_fdiv (pv 3) pe_int)) pe_int) pa_nil)) pe_int))
    (pss_one (ps_ret (pe_op op_modN (pe_op op_fdiv (pe_callTy (T := "int") call_int1 (by rfl) m_int (by decide +kernel) (pa_cons (pv 3) pa_nil)) pe_int) (pv 1)))))))))), ?_⟩
    walk_at "rd"
    refine ⟨_, _, _, _, rfl, rfl, sq hA, atI_nat (j := 0) rfl, ?_⟩
    walk_at "rd"
    refine ⟨⟨by decide, by decide, by decide⟩, ?_⟩
    walk_at "rd"
    refine ite2 (fun hb => ?_) (fun hb => ?_)
    · walk_at "rd"
      refine ⟨⟨by omega, by omega⟩, ?_⟩
      walk_at "rd"
      refine ⟨_, _, _, 0, rfl, rfl, hA, rfl, ?_⟩
      walk_at "rd"
      refine .inl ⟨_, rfl, ?_⟩
      walk_at "rd"
      refine ⟨by omega, ?_⟩
      exact q _ _ _ (hfm _).1 (hfm _).2
    · walk_at "rd"
      refine ⟨_, _, _, _, rfl, rfl, sq hA, atI_nat (j := 1) rfl, ?_⟩
      walk_at "rd"
      refine ⟨_, _, _, 1, rfl, rfl, hA, rfl, ?_⟩
      -- the first mixing
      walk_at "rd"
      refine ⟨.inr ⟨by decide, by decide⟩, ?_⟩
      walk_at "rd"
      refine ⟨_, _, _, _, rfl, rfl, sq upd_same, atI_nat (j := 1) rfl, ?_⟩
      walk_at "rd"
      refine ⟨.inr ⟨by decide, by decide⟩, ?_⟩
      walk_at "rd"
      refine .inl ⟨_, rfl, ?_⟩
      walk_at "rd"
      refine ⟨by show (0 : Int) < 2147483647; decide, ?_⟩
      -- the second
      walk_at "rd"
      refine ⟨.inl (modb _ (by decide) (by decide)), ?_⟩
      walk_at "rd"
      refine ⟨_, _, _, _, rfl, rfl, sq upd_same, atI_nat (j := 1) rfl, ?_⟩
      walk_at "rd"
      refine ⟨.inr ⟨by decide, by decide⟩, ?_⟩
      walk_at "rd"
      refine .inl ⟨_, rfl, ?_⟩
      walk_at "rd"
      refine ⟨by show (0 : Int) < 2147483629; decide, ?_⟩
      -- the third
      walk_at "rd"
      refine ⟨.inl (modb _ (by decide) (by decide)), ?_⟩
      walk_at "rd"
      refine ⟨⟨by decide, by decide⟩, ?_⟩
      walk_at "rd"
      refine .inl ⟨_, rfl, ?_⟩
      walk_at "rd"
      refine ⟨by show (0 : Int) < 2147483587; decide, ?_⟩
      -- the answer
      walk_at "rd"
      refine .inl ⟨_, rfl, ?_⟩
      walk_at "rd"
      refine ⟨⟨by decide, by decide⟩, ?_⟩
      walk_at "rd"
      refine ⟨by omega, ?_⟩
      exact q _ _ _ (hfm _).1 (hfm _).2
/-- some other source, or none -/
theorem draw_of {H : Hp} {a : Addr} {lim : Int} {Q : VK} {E : XK} (hA : Src H a) (h0 : 0 < lim ∧ lim < 1073741824) (q : ∀ r H', 0 ≤ r → r < lim → SameBut a H H' → Src H' a → Q (.int r) H') : spDraw [.ref a, .int lim] H Q E := by
  obtain ⟨n, c, hA⟩ := hA
  unfold spDraw
  exact ⟨a, n, c, lim, rfl, hA, h0.1, h0.2, fun r n' c' h1 h2 => q r _ h1 h2 SameBut.upd ⟨n', c', upd_same⟩⟩
abbrev CDraw (P : Program) (w : World) (K : PySem.W.Frag) (mg : Str → Option Value) (base : Heap) : Prop := Cal P w K mg base "_law_draw" 1 ["_law_source_here", "_law_limit"] spDraw
theorem sub_snoc {ms ns : List Str} {i : Nat} {n : Str} (h : ms.Sublist (ns.take i)) (hn : ns[i]? = some n) : (ms ++ [n]).Sublist (ns.take (i + 1)) := by
  rw [List.take_add_one, hn]
  exact h.append (List.Sublist.refl _)
theorem sub_skip {ms ns : List Str} {i : Nat} (h : ms.Sublist (ns.take i)) : ms.Sublist (ns.take (i + 1)) := by
  rw [List.take_add_one]
  exact h.trans (List.sublist_append_left _ _)
/-- names, as a list or a tuple, that draws do not touch -/
def NmAt (K : PySem.W.Frag) (H : Hp) (s a : Addr) (ns : List Str) : Prop := (a ≠ s ∧ H a = some (.lst (ns.map V.str))) ∨ SqT K H a (ns.map V.str)
theorem sqt_but {H H' : Hp} {s a : Addr} {xs : List V} (hs : Src H s) (sb : SameBut s H H') (h : SqT K H a xs) : SqT K H' a xs := by
  obtain ⟨n, c, hs⟩ := hs
  rcases h with (h | ⟨u, h⟩) | h
  · exact .inl (.inl (sb _ _ (fun z => by rw [z, hs] at h; cases h) h))
  · exact .inl (.inr ⟨u, sb _ _ (fun z => by rw [z, hs] at h; cases h) h⟩)
  · exact .inr h
theorem seq_but {H : Hp} {s a : Addr} {ns : List Str} {R : It → Hp → Prop} (hs : Src H s) (h : NmAt K H s a ns) {H1 : Hp} (b1 : SameBut s H H1) (k : ∀ (J : It) (G : Hp → Prop), Walk J (ns.map V.str).length G (YAt (ns.map V.str)) → (∀ H', SameBut s H H' → G H') → R J H1) : SeqCase K a H1 R := by
  rcases h with h | h
  · exact .inl ⟨⟨_, sq (b1 _ _ h.1 h.2)⟩, k _ _ walk_list fun H' b => sq (b _ _ h.1 h.2)⟩
  · exact .inr ⟨⟨_, sqt_but hs b1 h⟩, k _ _ walk_tup fun H' b => sqt_but hs b h⟩
theorem NmAt.but {H H' : Hp} {s a : Addr} {ns : List Str} (hs : Src H s) (b : SameBut s H H') (h : NmAt K H s a ns) : NmAt K H' s a ns := by
  rcases h with h | h
  · exact .inl ⟨h.1, b _ _ h.1 h.2⟩
  · exact .inr (sqt_but hs b h)
@[irreducible] def spSome (K : PySem.W.Frag) : Sp := fun vs H Q _ => ∃ (s a : Addr) (ns : List Str) (k : Int), vs = [.ref s, .ref a, .int k] ∧ Src H s ∧ NmAt K H s a ns ∧ ns.length ≤ 20 ∧ k ≤ 8 ∧ ∀ r (ms : List Str) H', SameBut s H H' → Src H' s → H r = none → H' r = some (.lst (ms.map V.str)) → ms.length ≤ 8 → ms.Sublist ns → Q (.ref r) H'
theorem ok_some {f : Addr} {fd : FuncData} (F : Fun K "_law_some" "_law_some" s__law_some f fd) (m_len : mg "len" = none) (C__law_draw : CDraw P w K mg base) : FnOk P w K mg base CX0 2 f fd ["_law_source_here", "_law_names", "_law_most"] (spSome K) := by
  refine F.ok sc__law_some (fun vs H Q E h => ?_) (fun cdv A outer s H vs Q E hr h => ?_)
  · unfold spSome at h
    obtain ⟨s, a, ns, k, rfl, _⟩ := h
    rfl
  · unfold spSome at h
    obtain ⟨src, a, ns, k, rfl, hA, hN, hnl, hk, q⟩ := h
    refine ⟨_, (pss_cons (ps_set (i := 3) sc__law_some.nd rfl (Or.inl rfl) (pe_lst pa_nil))
    (pss_cons (ps_for PassesOwn.never rfl (pi_seq (pv 1)) (pg_name (i := 4) sc__law_some.nd rfl (Or.inl rfl))
      (pss_one (ps_if (PW.pt (pw_and (pt_cmpR op_lt (pe_callB call_len_seq (by rfl) m_len PySem.boot_len (pa_cons (pv 3) pa_nil)) (pv 2) (nomark _)) (pw_and1 (pt_cmpR op_gt (pe_cal C__law_draw (hr.mono (by decide)) (pa_cons (pv 0) (pa_cons pe_int pa_nil))) pe_int (nomark _)))))
      (pss_one (ps_expr (pe_bm PySem.F.plainAttrs_list PySem.F.slot_list_append PySem.F.type_list_append mt_append (pv 3) (pa_cons (pv 4) pa_nil))))
      pss_nil)))
    (pss_one (ps_ret (pv 3))))), ?_⟩
    walk_at "rd"
    refine ⟨sz (by decide), fun l nl => ?_⟩
    have nls : l ≠ src := (src_ne hA nl).symm
    walk_at "rd"
    refine seq_but hA hN (Bx.Same.but (same_new nl)) fun J G wk hG => for_it wk (fun i σ H' => ∃ (o4 : Option V) (ms : List Str), σ = [some (.ref src), some (.ref a), some (.int k), some (.ref l), o4] ∧ SameBut src H H' ∧ Src H' src ∧ H' l = some (.lst (ms.map V.str)) ∧ ms.Sublist (ns.take i) ∧ (ms.length = 0 ∨ (ms.length : Int) ≤ k)) ⟨none, [], rfl, Bx.Same.but (same_new nl), src_upd hA nls.symm, upd_same, List.nil_sublist _, .inl rfl⟩ (fun i σ H' _ ⟨_, _, _, s, _⟩ => hG H' s) ?_ ?_
    · rintro i x σ H1 H2 hi ⟨o4, ms, rfl, s1, hA1, hl, hm, hml⟩ ⟨rfl, hx⟩
      obtain ⟨n, hn, rfl⟩ := at_map hx
      walk_at "rd"
      refine ⟨_, _, rfl, .inl (sq hl), ?_⟩
      walk_at "rd"
      refine ite2 (fun h0 => ?_) (fun h0 => ?_)
      · have h1 : ((ms.map V.str).length : Int) < k := of_decide_eq_true h0
        rw [List.length_map] at h1
        walk_at "rd"
        refine draw_of hA1 ⟨by decide, by decide⟩ fun d H3 _ _ s3 hA3 => ?_
        have hl3 := s3 _ _ nls hl
        walk_at "rd"
        refine ite2 (fun _ => ?_) (fun _ => ?_)
        · walk_at "rd"
          refine ⟨.inl ⟨rfl, _, sq hl3⟩, ?_⟩
          walk_at "rd"
          refine ⟨l, _, _, rfl, rfl, hl3, szl (by rw [List.length_map]; omega), ?_⟩
          exact ⟨_, ms ++ [n], rfl, but_at nl (s1.trans s3), src_upd hA3 nls.symm, by rw [upd_same, List.map_append]; rfl, sub_snoc hm hn, .inr (by rw [List.length_append]; show ((ms.length + 1 : Nat) : Int) ≤ k; omega)⟩
        · walk_at "rd"
          exact ⟨_, ms, rfl, s1.trans s3, hA3, hl3, sub_skip hm, hml⟩
      · walk_at "rd"
        exact ⟨_, ms, rfl, s1, hA1, hl, sub_skip hm, hml⟩
    · rintro σ H1 ⟨o4, ms, rfl, s1, hA1, hl, hm, hml⟩
      walk_at "rd"
      rw [List.length_map, List.take_length] at hm
      exact q l ms H1 s1 hA1 nl hl (by omega) hm
@[irreducible] def spBound : Sp := fun vs H Q _ => ∃ s : Addr, vs = [.ref s] ∧ Src H s ∧ ∀ (c : Int) H', SameBut s H H' → Src H' s → Q (.int c) H'
theorem ok_bound {f : Addr} {fd : FuncData} (F : Fun K "_law_bound" "_law_bound" s__law_bound f fd) (C__law_draw : CDraw P w K mg base) : FnOk P w K mg base CX0 2 f fd ["_law_source_here"] spBound := by
  refine F.ok sc__law_bound (fun vs H Q E h => ?_) (fun cdv A outer s H vs Q E hr h => ?_)
  · unfold spBound at h
    obtain ⟨s, rfl, _⟩ := h
    rfl
  · unfold spBound at h
    obtain ⟨src, rfl, hA, q⟩ := h
    refine ⟨_, (pss_cons (ps_if (pt_cmpR op_eq (pe_cal C__law_draw (hr.mono (by decide)) (pa_cons (pv 0) (pa_cons pe_int pa_nil))) pe_int (nomark _))
      (pss_one (ps_ret (pe_op op_sub (pe_cal C__law_draw (hr.mono (by decide)) (pa_cons (pv 0) (pa_cons pe_int pa_nil))) pe_int)))
      pss_nil)
    (pss_one (ps_ret (pe_op op_sub (pe_cal C__law_draw (hr.mono (by decide)) (pa_cons (pv 0) (pa_cons pe_int pa_nil))) pe_int)))), ?_⟩
    walk_at "rd"
    refine draw_of hA ⟨by decide, by decide⟩ fun d H1 _ _ s1 hA1 => ?_
    walk_at "rd"
    refine ite2 (fun _ => ?_) (fun _ => ?_)
    · walk_at "rd"
      refine draw_of hA1 ⟨by decide, by decide⟩ fun d H2 _ _ s2 hA2 => ?_
      walk_at "rd"
      exact q _ H2 (s1.trans s2) hA2
    · walk_at "rd"
      refine draw_of hA1 ⟨by decide, by decide⟩ fun d H2 _ _ s2 hA2 => ?_
      walk_at "rd"
      exact q _ H2 (s1.trans s2) hA2
@[irreducible] def spCtr (K : PySem.W.Frag) : Sp := fun vs H Q _ => ∃ (s a : Addr) (ns : List Str), vs = [.ref s, .ref a] ∧ Src H s ∧ NmAt K H s a ns ∧ ns.length ≤ 8 ∧ ∀ p (c : Ctr) H', SameBut s H H' → Src H' s → H p = none → H' p = some (.tup [.str c.1, .str c.2.1, .int c.2.2]) → c.1 ∈ pls ns → c.2.1 ∈ pls ns → (c.1 = c.2.1 → c.1 = emp) → Q (.ref p) H'
theorem ok_constraint {f : Addr} {fd : FuncData} (F : Fun K "_law_constraint" "_law_constraint" s__law_constraint f fd) (m_list : mg "list" = none) (m_len : mg "len" = none) (C__law_draw : CDraw P w K mg base) (C__law_bound : Cal P w K mg base "_law_bound" 2 ["_law_source_here"] spBound) : FnOk P w K mg base CX0 3 f fd ["_law_source_here", "_law_names"] (spCtr K) := by
  refine F.ok sc__law_constraint (fun vs H Q E h => ?_) (fun cdv A outer s H vs Q E hr h => ?_)
  · unfold spCtr at h
    obtain ⟨s, a, ns, rfl, _⟩ := h
    rfl
  · unfold spCtr at h
    obtain ⟨src, a, ns, rfl, hA, hN, hnl, q⟩ := h
    refine ⟨_, (pss_cons (ps_set (i := 2) sc__law_constraint.nd rfl (Or.inl rfl) (pe_op op_cat (pe_lst (pa_cons pe_str pa_nil)) (pe_callTy (T := "list") call_list_of (by rfl) m_list (by decide +kernel) (pa_cons (pv 1) pa_nil))))
    (pss_cons (ps_set (i := 3) sc__law_constraint.nd rfl (Or.inl rfl) (pe_ix ix_list (pv 2) (pe_cal C__law_draw (hr.mono (by decide)) (pa_cons (pv 0) (pa_cons (pe_callB call_len_seq (by rfl) m_len PySem.boot_len (pa_cons (pv 2) pa_nil)) pa_nil))) (fun _ _ => rfl)))
    (pss_cons (ps_set (i := 4) sc__law_constraint.nd rfl (Or.inl rfl) (pe_ix ix_list (pv 2) (pe_cal C__law_draw (hr.mono (by decide)) (pa_cons (pv 0) (pa_cons (pe_callB call_len_seq (by rfl) m_len PySem.boot_len (pa_cons (pv 2) pa_nil)) pa_nil))) (fun _ _ => rfl)))
    (pss_cons (ps_if (PW.pt (pw_and (pt_cmpR op_eq (pv 3) (pv 4) (nomark _)) (pw_and1 (pt_cmpR op_ne (pv 3) pe_str (nomark _)))))
      (pss_one (ps_set (i := 4) sc__law_constraint.nd rfl (Or.inl rfl) pe_str))
      pss_nil)
    (pss_one (ps_ret (pe_tup (pa_cons (pv 3) (pa_cons (pv 4) (pa_cons (pe_cal C__law_bound (hr.mono (by decide)) (pa_cons (pv 0) pa_nil)) pa_nil)))))))))), ?_⟩
    walk_at "rd"
    refine ⟨sz (by show 1 ≤ 100000; decide), fun L0 nL0 => ?_⟩
    have s0 := same_new nL0 (o := .lst [V.str (Str.ofString "")])
    walk_at "rd"
    refine ⟨a, _, rfl, hN.imp (fun h => sq (s0 _ _ h.2)) (Bx.Same.tup s0), fun L1 nL1 => ?_⟩
    have s1 := same_new nL1 (o := .lst (ns.map V.str))
    refine ⟨L0, L1, _, _, rfl, rfl, s1 _ _ upd_same, upd_same, sz (by rw [List.length_map]; show 1 + ns.length ≤ 100000; omega), fun L nL => ?_⟩
    have s2 := same_new nL (o := .lst ([V.str (Str.ofString "")] ++ ns.map V.str))
    have sB := Same.trans s0 (Same.trans s1 s2)
    have hL : (upd (upd (upd H L0 (.lst [V.str (Str.ofString "")])) L1 (.lst (ns.map V.str))) L (.lst ([V.str (Str.ofString "")] ++ ns.map V.str))) L = some (.lst ((pls ns).map V.str)) := upd_same
    have nL0' : H L = none := (Same.trans s0 s1).free nL
    generalize upd (upd (upd H L0 (.lst [V.str (Str.ofString "")])) L1 (.lst (ns.map V.str))) L (.lst ([V.str (Str.ofString "")] ++ ns.map V.str)) = HB at *
    have nLs : L ≠ src := (src_ne hA nL0').symm
    have hAB := src_same hA sB
    have hpl : (pls ns).length = ns.length + 1 := rfl
    have elt : ∀ r : Int, 0 ≤ r → r < ((pls ns).map V.str).length → ∃ x : Str, x ∈ pls ns ∧ atI ((pls ns).map V.str) r = some (.str x) := fun r r0 r1 => by
      obtain ⟨n, rfl⟩ := Int.eq_ofNat_of_zero_le r0
      rw [List.length_map] at r1
      have hn : n < (pls ns).length := by omega
      exact ⟨(pls ns)[n], List.getElem_mem hn, atI_nat (by rw [List.getElem?_map, List.getElem?_eq_getElem hn]; rfl)⟩
    have hlen : (0 : Int) < ((pls ns).map V.str).length ∧ (((pls ns).map V.str).length : Int) < 1073741824 := by
      rw [List.length_map]
      omega
    walk_at "rd"
    refine ⟨_, _, rfl, .inl (sq hL), ?_⟩
    refine draw_of hAB hlen fun r H1 r0 r1 sA hA1 => ?_
    have hL1 := sA _ _ nLs hL
    obtain ⟨x, hx, ax⟩ := elt r r0 r1
    refine ⟨_, _, _, _, rfl, rfl, sq hL1, ax, ?_⟩
    walk_at "rd"
    refine ⟨_, _, rfl, .inl (sq hL1), ?_⟩
    refine draw_of hA1 hlen fun r' H2 r0' r1' sA2 hA2 => ?_
    have hL2 := sA2 _ _ nLs hL1
    obtain ⟨y, hy, ay⟩ := elt r' r0' r1'
    refine ⟨_, _, _, _, rfl, rfl, sq hL2, ay, ?_⟩
    have sT : SameBut src H H2 := (Bx.Same.but sB).trans (sA.trans sA2)
    walk_at "rd"
    have fin : ∀ z : Str, z ∈ pls ns → (x = z → x = emp) → tRet (tTup (tCons (tVar 3) (tCons (tVar 4) (tCons (tCal spBound (tCons (tVar 0) tNil)) tNil)))) { nx := fun _ H' => Q V.non H', rt := Q } [some (.ref src), some (.ref a), some (.ref L), some (.str x), some (.str z)] H2 := by
      intro z hz hxz
      walk_at "rd"
      unfold spBound
      refine ⟨src, rfl, hA2, fun c H3 s3 hA3 => ?_⟩
      walk_at "rd"
      refine ⟨sz (by show 3 ≤ 100000; decide), fun p np => ?_⟩
      have nps : p ≠ src := (src_ne hA3 np).symm
      have npH : H p = none := but_free (sT.trans s3) nps np
      exact q p (x, z, c) _ (but_at npH (sT.trans s3)) (src_upd hA3 nps.symm) npH upd_same hx hz hxz
    refine ite2 (fun he => ?_) (fun he => ?_)
    · walk_at "rd"
      refine ite2 (fun h1 => ?_) (fun h1 => ?_)
      · exact fin (Str.ofString "") (List.mem_cons_self ..) (fun e => e)
      · exact fin y hy (fun _ => V.str.inj (by simpa using h1))
    · refine ite2 (fun h => absurd h (by decide)) (fun _ => ?_)
      exact fin y hy (fun e => absurd (decide_eq_true (congrArg V.str e)) he)
end
end K14
namespace K14
local macro_rules | `(tactic| walk_at "rd") => `(tactic| repeat (first | refine ⟨rfl, ?_⟩ | refine ⟨_, rfl, ?_⟩ | refine ⟨_, _, rfl, rfl, ?_⟩ | refine ⟨⟨_, rfl⟩, ?_⟩))
open PySem PySem.Spec PyProof.Rows L2 Bx TL Dx Zx Ow Sup NdefX Px
section
variable {P : Program} {w : World} {K : PySem.W.Frag} {mg : Str → Option Value} {base : Heap}
/-- constraints over the places of `ns` -/
def InPl (ns : List Str) (cs : List Ctr) : Prop := ∀ c ∈ cs, c.1 ∈ pls ns ∧ c.2.1 ∈ pls ns ∧ (c.1 = c.2.1 → c.1 = emp)
theorem tk_but {H H' : Hp} {s : Addr} (hs : Src H s) (sb : SameBut s H H') : Tk K H H' := fun _ _ h => sqt_but hs sb h
theorem Th.but {H H' : Hp} {s T na ca : Addr} {xs : List V} {ns : List Str} {cs : List Ctr} (hs : Src H s) (sb : SameBut s H H') (h : Th K H T na ca xs ns cs) : Th K H' T na ca xs ns cs :=
  ⟨sqt_but hs sb h.t, sqt_but hs sb h.n, sqt_but hs sb h.c, da_tk (tk_but hs sb) _ _ (tup_ctr _) h.d⟩
theorem cut_sub (ns : List Str) (lo hi : Option Int) : ∃ ms : List Str, cutV (ns.map V.str) lo hi = ms.map V.str ∧ ms.Sublist ns := by
  unfold cutV
  rw [List.length_map, ← List.map_drop, ← List.map_take]
  exact ⟨_, rfl, (List.take_sublist _ _).trans (List.drop_sublist _ _)⟩
abbrev pool8 : List Str := [Str.ofString "a", Str.ofString "a1", Str.ofString "b", Str.ofString "b.c", Str.ofString "c", Str.ofString "d", Str.ofString "x9", Str.ofString "zz"]
@[irreducible] def spTheory (K : PySem.W.Frag) : Sp := fun vs H Q _ => ∃ s : Addr, vs = [.ref s] ∧ Src H s ∧ ∀ p (ns : List Str) (cs : List Ctr) H', SameBut s H H' → Src H' s → (∃ na ca xs, Th K H' p na ca xs ns cs) → ns.Sublist pool8 → cs.length ≤ 8 → InPl ns cs → Q (.ref p) H'
theorem ok_theory {f : Addr} {fd : FuncData} (F : Fun K "_law_theory" "_law_theory" s__law_theory f fd) (m_range : mg "range" = none) (m_tuple : mg "tuple" = none) (C__law_draw : CDraw P w K mg base) (C__law_some : Cal P w K mg base "_law_some" 2 ["_law_source_here", "_law_names", "_law_most"] (spSome K)) (C__law_constraint : Cal P w K mg base "_law_constraint" 3 ["_law_source_here", "_law_names"] (spCtr K)) : FnOk P w K mg base CX0 4 f fd ["_law_source_here"] (spTheory K) := by
  refine F.ok sc__law_theory (fun vs H Q E h => ?_) (fun cdv A outer s H vs Q E hr h => ?_)
  · unfold spTheory at h
    obtain ⟨s, rfl, _⟩ := h
    rfl
  · unfold spTheory at h
    obtain ⟨src, rfl, hA, q⟩ := h
    refine ⟨_, (pss_cons (ps_set (i := 1) sc__law_theory.nd rfl (Or.inl rfl) (pe_lst (pa_cons pe_str (pa_cons pe_str (pa_cons pe_str (pa_cons pe_str (pa_cons pe_str (pa_cons pe_str (pa_cons pe_str (pa_cons pe_str pa_nil))))))))))
    (pss_cons (ps_set (i := 2) sc__law_theory.nd rfl (Or.inl rfl) (pe_cal C__law_some (hr.mono (by decide)) (pa_cons (pv 0) (pa_cons (pe_slice sl_list (pv 1) (po_some (pe_cal C__law_draw (hr.mono (by decide)) (pa_cons (pv 0) (pa_cons pe_int pa_nil)))) po_none) (pa_cons (pe_cal C__law_draw (hr.mono (by decide)) (pa_cons (pv 0) (pa_cons pe_int pa_nil))) pa_nil)))))
    (pss_cons (ps_set (i := 3) sc__law_theory.nd rfl (Or.inl rfl) (pe_lst pa_nil))
    (pss_cons (ps_for PassesOwn.never rfl (pi_range1 (by rfl) m_range (pa_cons (pe_cal C__law_draw (hr.mono (by decide)) (pa_cons (pv 0) (pa_cons pe_int pa_nil))) pa_nil)) (pg_name (i := 4) sc__law_theory.nd rfl (Or.inl rfl))
      (pss_one (ps_expr (pe_bm PySem.F.plainAttrs_list PySem.F.slot_list_append PySem.F.type_list_append mt_append (pv 3) (pa_cons (pe_cal C__law_constraint (hr.mono (by decide)) (pa_cons (pv 0) (pa_cons (pv 2) pa_nil))) pa_nil)))))
    (pss_one (ps_ret (pe_tup (pa_cons (pe_callTy (T := "tuple") call_tuple_of (by rfl) m_tuple (by decide +kernel) (pa_cons (pv 2) pa_nil)) (pa_cons (pe_callTy (T := "tuple") call_tuple_of (by rfl) m_tuple (by decide +kernel) (pa_cons (pv 3) pa_nil)) pa_nil))))))))), ?_⟩
    walk_at "rd"
    refine ⟨sz (by decide), fun L0 n0 => ?_⟩
    have nL0s := src_ne hA n0
    have s0 := same_new n0 (o := .lst (pool8.map V.str))
    have hl0 := upd_same (H := H) (a := L0) (o := .lst (pool8.map V.str))
    have hA0 := src_same hA s0
    walk_at "rd"
    refine draw_of hA0 ⟨by decide, by decide⟩ fun r H1 r0 r1 s1 hA1 => ?_
    have hl1 := s1 _ _ nL0s.symm hl0
    obtain ⟨ms, hms, hmm⟩ := cut_sub pool8 (some r) none
    have hml := hmm.length_le
    refine ⟨r, rfl, L0, _, rfl, sq hl1, fun L1 n1 => ?_⟩
    rw [hms]
    have nL1s := src_ne hA1 n1
    walk_at "rd"
    refine draw_of (src_upd hA1 nL1s) ⟨by decide, by decide⟩ fun k H2 k0 k1 s2 hA2 => ?_
    have hl2 := s2 _ _ nL1s.symm upd_same
    show spSome K _ _ _ _
    unfold spSome
    refine ⟨src, L1, ms, k, rfl, hA2, .inl ⟨nL1s.symm, hl2⟩, (by have : pool8.length = 8 := rfl; omega), by omega, fun N ns H3 s3 hA3 nN hN hnl hnm => ?_⟩
    have s13 : SameBut src H H3 := (Bx.Same.but s0).trans (s1.trans ((but_new n1 s2).trans s3))
    walk_at "rd"
    refine ⟨sz (by decide), fun L nL => ?_⟩
    have nLs := src_ne hA3 nL
    have nNs : N ≠ src := fun e => by rw [e] at nN; exact (src_ne hA2 nN) rfl
    have nNL : N ≠ L := fun e => by rw [e, nL] at hN; cases hN
    walk_at "rd"
    refine draw_of (src_upd hA3 nLs) ⟨by decide, by decide⟩ fun n H4 n0 n1' s4 hA4 => ?_
    have hL4 := s4 _ _ nLs.symm upd_same
    have hN4 : H4 N = some (.lst (ns.map V.str)) := s4 _ _ nNs (by rw [upd_ne nNL]; exact hN)
    have s14 : SameBut src H H4 := s13.trans (but_new nL s4)
    obtain ⟨nn, rfl⟩ := Int.eq_ofNat_of_zero_le n0
    refine ⟨_, rfl, by omega, by omega, for_it walk_range (fun i σ H' => ∃ (o4 : Option V) (xs : List V) (cs : List Ctr), σ = [some (.ref src), some (.ref L0), some (.ref N), some (.ref L), o4] ∧ SameBut src H H' ∧ Src H' src ∧ H' L = some (.lst xs) ∧ H' N = some (.lst (ns.map V.str)) ∧ DpAll K H' xs (cs.map ctD) ∧ cs.length = i ∧ InPl ns cs)
      ⟨none, [], [], rfl, s14, hA4, hL4, hN4, .nil, rfl, (fun p hp => nomatch hp)⟩ (fun _ _ _ _ _ => trivial) ?_ ?_⟩
    · rintro i z σ H5 H5' hi ⟨o4, xs, cs, rfl, s5, hA5, hL5, hN5, hd, hc, hin⟩ ⟨rfl, rfl⟩
      walk_at "rd"
      refine ⟨.inl ⟨rfl, _, sq hL5⟩, ?_⟩
      walk_at "rd"
      show spCtr K _ _ _ _
      unfold spCtr
      refine ⟨src, N, ns, rfl, hA5, .inl ⟨nNs, hN5⟩, hnl, fun p c H6 s6 hA6 np hp hx hy hxy => ?_⟩
      have hL6 := s6 _ _ nLs.symm hL5
      have nLH : H L = none := but_free s13 nLs.symm nL
      walk_at "rd"
      refine ⟨L, _, _, rfl, rfl, hL6, szl (by rw [da_len hd]; rw [List.length_map]; omega), ?_⟩
      refine ⟨_, xs ++ [.ref p], cs ++ [c], rfl, but_at nLH (s5.trans s6), src_upd hA6 nLs, upd_same, by rw [upd_ne nNL]; exact s6 _ _ nNs hN5, (by rw [List.map_append]; exact da_tk (tk_lst hL6) _ _ (by rw [← List.map_append (l₂ := [c])]; exact tup_ctr _) (da_app (da_tk (tk_but hA5 s6) _ _ (tup_ctr _) hd) (da_one (dp_ctr (sqt hp))))), by rw [List.length_append, hc]; rfl, fun x hx' => ?_⟩
      rcases List.mem_append.mp hx' with h | h
      · exact hin x h
      · rw [List.mem_singleton.mp h]
        exact ⟨hx, hy, hxy⟩
    · rintro σ H5 ⟨o4, xs, cs, rfl, s5, hA5, hL5, hN5, hd, hc, hin⟩
      walk_at "rd"
      refine ⟨N, _, rfl, .inl ⟨sq hN5, fun t1 nt1 => ?_⟩⟩
      have u1 := same_new nt1 (o := .tup (ns.map V.str))
      have g1 := upd_same (H := H5) (a := t1) (o := .tup (ns.map V.str))
      generalize upd H5 t1 (.tup (ns.map V.str)) = H6 at u1 g1 ⊢
      walk_at "rd"
      refine ⟨L, xs, rfl, .inl ⟨sq (u1 _ _ hL5), fun t2 nt2 => ?_⟩⟩
      have u2 := same_new nt2 (o := .tup xs)
      have g2 := upd_same (H := H6) (a := t2) (o := .tup xs)
      generalize upd H6 t2 (.tup xs) = H7 at u2 g2 ⊢
      walk_at "rd"
      refine ⟨sz (by show 2 ≤ 100000; decide), fun t3 nt3 => ?_⟩
      have u3 := same_new nt3 (o := .tup [.ref t1, .ref t2])
      have g3 := upd_same (H := H7) (a := t3) (o := .tup [.ref t1, .ref t2])
      have u := Same.trans u1 (Same.trans u2 u3)
      exact q t3 ns cs _ (s5.trans (Bx.Same.but u)) (src_same hA5 u) ⟨t1, t2, xs, sqt g3, Bx.Same.tup (Same.trans u2 u3) (sqt g1), Bx.Same.tup u3 (sqt g2), dpAll_same u hd⟩ (hnm.trans hmm) (by omega) hin
end
end K14
namespace K14
local macro_rules | `(tactic| walk_at "rd") => `(tactic| repeat (first | refine ⟨rfl, ?_⟩ | refine ⟨_, rfl, ?_⟩ | refine ⟨_, _, rfl, rfl, ?_⟩ | refine ⟨⟨_, rfl⟩, ?_⟩))
open PySem PySem.Spec PyProof.Rows L2 Bx TL Dx Zx Ow Sup NdefX Px
section
variable {P : Program} {w : World} {K : PySem.W.Frag} {mg : Str → Option Value} {base : Heap}
/-- t gives this truth value and writes nothing -/
def Gv (t : TE) (σ : L2.St) (H : Hp) (b : Bool) : Prop := ∀ Q : VK, Q (.bl b) H → t σ H Q
theorem Gv.and {ta tb : TE} {σ : L2.St} {H : Hp} {a b : Bool} (ha : Gv ta σ H a) (hb : Gv tb σ H b) : Gv (tAndV ta tb) σ H (a && b) := fun Q q => ha _ ⟨a, rfl, by
  cases a with
  | true => exact hb _ q
  | false => exact q⟩
theorem Gv.or {ta tb : TE} {σ : L2.St} {H : Hp} {a b : Bool} (ha : Gv ta σ H a) (hb : Gv tb σ H b) : Gv (tOrV ta tb) σ H (a || b) := fun Q q => ha _ ⟨a, rfl, by
  cases a with
  | true => exact q
  | false => exact hb _ q⟩
theorem bare_new {H : Hp} {C k dk : Addr} (nk : H k = none) (nd : H dk = none) (ne : dk ≠ k) : Same H (upd (upd H dk (.own k)) k (.ins C dk [])) ∧ (upd (upd H dk (.own k)) k (.ins C dk [])) k = some (.ins C dk []) :=
  ⟨Same.trans (same_new nd) (same_new (by rw [upd_ne (Ne.symm ne)]; exact nk)), upd_same⟩
theorem dec_str (a b : Str) : decide (V.str a = V.str b) = decide (a = b) := decide_eq_decide.mpr ⟨V.str.inj, fun e => congrArg V.str e⟩
abbrev six : List Str := [emp, Str.ofString "a", Str.ofString "b", Str.ofString "zz", Str.ofString "k", Str.ofString "x9"]
theorem elt_of {l : List Str} {r : Int} (r0 : 0 ≤ r) (r1 : r < (l.length : Int)) : ∃ x : Str, x ∈ l ∧ atI (l.map V.str) r = some (.str x) := by
  obtain ⟨n, rfl⟩ := Int.eq_ofNat_of_zero_le r0
  have hn : n < l.length := by omega
  exact ⟨l[n], List.getElem_mem hn, atI_nat (by rw [List.getElem?_map, List.getElem?_eq_getElem hn]; rfl)⟩
theorem ok_six {ns : List Str} (h : ∀ z ∈ ns, PyData.strOk z = true) : ∀ z ∈ six ++ ns ++ ns, PyData.strOk z = true := fun z hz => by
  have h6 : ∀ z ∈ six, PyData.strOk z = true := by decide +kernel
  rcases List.mem_append.mp hz with hz | hz
  · exact (List.mem_append.mp hz).elim (h6 z) (h z)
  · exact h z hz
theorem ok_eq (ns : List Str) (x y : Str) : okStep ns x y = ((decide (x = emp) || decide (x ∈ ns)) && (decide (y = emp) || decide (y ∈ ns)) && (decide (x ≠ y) || decide (x = emp))) := by
  unfold okStep ends
  congr 1
  have one : ∀ z : Str, (decide (z = emp) || decide (z ∈ ns)) = (([z].filter fun z => decide (z ≠ emp)).all fun z => decide (z ∈ ns)) := fun z => by
    by_cases h : z = emp
    · simp [h]
    · simp [h]
  rw [one x, one y, ← List.all_append, ← List.filter_append]
  rfl
@[irreducible] def spVR (K : PySem.W.Frag) : Sp := fun vs H Q _ => ∃ (s t : Addr) (ns : List Str), vs = [.ref s, .ref t] ∧ Src H s ∧ SqT K H t (ns.map V.str) ∧ ns.length ≤ 8 ∧ (∀ z ∈ ns, PyData.strOk z = true) ∧ ∀ H', SameBut s H H' → Src H' s → Q (.bl true) H'
theorem ok_valid_right {C : Addr} {f : Addr} {fd : FuncData} (F : Fun K "_law_valid_right" "_law_valid_right" s__law_valid_right f fd) (m_list : mg "list" = none) (m_len : mg "len" = none) (m_isinstance : mg "isinstance" = none) (m_bool : mg "bool" = none) (m_tuple : mg "tuple" = none) (B_Steps : Mk0.Bare K mg "Steps" C)
    (C__law_draw : CDraw P w K mg base) (C__law_bound : Cal P w K mg base "_law_bound" 2 ["_law_source_here"] spBound) (M_is_valid : MthC P w K mg base C "is_valid" 4 ["self", "names", "constraint"] (spSV K C)) (M_names_in : MthC P w K mg base C "names_in" 1 ["self", "constraint"] (spNIn K)) :
    FnOk P w K mg base CX0 5 f fd ["_law_source_here", "_law_names"] (spVR K) := by
  refine F.ok sc__law_valid_right (fun vs H Q E h => ?_) (fun cdv A outer s H vs Q E hr h => ?_)
  · unfold spVR at h
    obtain ⟨s, t, ns, rfl, _⟩ := h
    rfl
  · unfold spVR at h
    obtain ⟨src, t, ns, rfl, hA, ht, hnl, hok, q⟩ := h
    refine ⟨_, (pss_cons (ps_set (i := 2) sc__law_valid_right.nd rfl (Or.inl rfl) (pe_op op_cat (pe_op op_cat (pe_lst (pa_cons pe_str (pa_cons pe_str (pa_cons pe_str (pa_cons pe_str (pa_cons pe_str (pa_cons pe_str pa_nil))))))) (pe_callTy (T := "list") call_list_of (by rfl) m_list (by decide +kernel) (pa_cons (pv 1) pa_nil))) (pe_callTy (T := "list") call_list_of (by rfl) m_list (by decide +kernel) (pa_cons (pv 1) pa_nil))))
    (pss_cons (ps_set (i := 3) sc__law_valid_right.nd rfl (Or.inl rfl) (pe_ix ix_list (pv 2) (pe_cal C__law_draw (hr.mono (by decide)) (pa_cons (pv 0) (pa_cons (pe_callB call_len_seq (by rfl) m_len PySem.boot_len (pa_cons (pv 2) pa_nil)) pa_nil))) (fun _ _ => rfl)))
    (pss_cons (ps_set (i := 4) sc__law_valid_right.nd rfl (Or.inl rfl) (pe_ix ix_list (pv 2) (pe_cal C__law_draw (hr.mono (by decide)) (pa_cons (pv 0) (pa_cons (pe_callB call_len_seq (by rfl) m_len PySem.boot_len (pa_cons (pv 2) pa_nil)) pa_nil))) (fun _ _ => rfl)))
    (pss_cons (ps_if (pt_cmpR op_eq (pe_cal C__law_draw (hr.mono (by decide)) (pa_cons (pv 0) (pa_cons pe_int pa_nil))) pe_int (nomark _))
      (pss_one (ps_set (i := 4) sc__law_valid_right.nd rfl (Or.inl rfl) (pv 3)))
      pss_nil)
    (pss_cons (ps_set (i := 5) sc__law_valid_right.nd rfl (Or.inl rfl) (pe_and (pe_or (pe_cmpR op_eq (pv 3) pe_str (nomark _)) (pe_one (pe_cmpR op_in_seq (pv 3) (pv 1) (by rfl)))) (pe_and (pe_or (pe_cmpR op_eq (pv 4) pe_str (nomark _)) (pe_one (pe_cmpR op_in_seq (pv 4) (pv 1) (by rfl)))) (pe_one (pe_or (pe_cmpR op_ne (pv 3) (pv 4) (nomark _)) (pe_one (pe_cmpR op_eq (pv 3) pe_str (nomark _))))))))
    (pss_cons (ps_set (i := 6) sc__law_valid_right.nd rfl (Or.inl rfl) (pe_tup (pa_cons (pv 3) (pa_cons (pv 4) (pa_cons (pe_cal C__law_bound (hr.mono (by decide)) (pa_cons (pv 0) pa_nil)) pa_nil)))))
    (pss_cons (ps_set (i := 7) sc__law_valid_right.nd rfl (Or.inl rfl) (pe_mth M_is_valid (hr.mono (by decide)) (Mk0.pe_bare B_Steps) (pa_cons (pv 1) (pa_cons (pv 6) pa_nil)) (ht := mcall_of (abase_call (by decide +kernel)) (fun _ => rfl))))
    (pss_cons (ps_if (PW.pt (pw_or (pt_not (pt_val (pe_callB (id := "isinstance") call_isi (by rfl) m_isinstance (by decide +kernel) (pa_cons (pv 7) (pa_cons (pe_bltn (v := .ty "bool") (by rfl) m_bool (by decide +kernel) rfl) pa_nil))))) (pw_or1 (pt_cmpR op_ne (pv 7) (pv 5) (nomark _)))))
      (pss_one (ps_ret pe_bl))
      pss_nil)
    (pss_cons (ps_if (pt_not (pt_val (pv 5)))
      (pss_one (ps_ret pe_bl))
      pss_nil)
    (pss_one (ps_ret (pe_cmpR (op_eqD hr.units) (pe_mth M_names_in (hr.mono (by decide)) (Mk0.pe_bare B_Steps) (pa_cons (pv 6) pa_nil) (ht := mcall_of (abase_call (by decide +kernel)) (fun _ => rfl))) (pe_callTy (T := "tuple") call_tuple_of (by rfl) m_tuple (by decide +kernel) (pa_cons (pe_lc (own := [("_law_name", 8)]) rfl sc__law_valid_right.nd (pi_list (pe_lst (pa_cons (pv 3) (pa_cons (pv 4) pa_nil)))) (blkOk_by (N := n__law_valid_right) (sc := defScope s__law_valid_right) (by decide +kernel)) (fun _ _ _ _ _ => pg_name (i := 8) sc__law_valid_right.nd rfl (Or.inl rfl)) (fun _ _ _ _ _ => pts_one (pt_cmpR op_ne (pv 8) pe_str (nomark _))) (fun _ _ _ _ _ => (pv 8))) pa_nil)) (nomark _))))))))))))), ?_⟩
    walk_at "rd"
    refine ⟨sz (by show 6 ≤ 100000; decide), fun L0 n0 => ?_⟩
    have u0 := same_new n0 (o := .lst (six.map V.str))
    rw [show [V.str (Str.ofString ""), V.str (Str.ofString "a"), V.str (Str.ofString "b"), V.str (Str.ofString "zz"), V.str (Str.ofString "k"), V.str (Str.ofString "x9")] = six.map V.str from rfl]
    walk_at "rd"
    refine ⟨t, _, rfl, .inr (Bx.Same.tup u0 ht), fun L1 n1 => ?_⟩
    have u1 := same_new n1 (o := .lst (ns.map V.str))
    refine ⟨L0, L1, _, _, rfl, rfl, u1 _ _ upd_same, upd_same, sz (by rw [List.length_map, List.length_map]; show 6 + ns.length ≤ 100000; omega), fun L2 n2 => ?_⟩
    have u2 := same_new n2 (o := .lst (six.map V.str ++ ns.map V.str))
    have e2 : (upd (upd (upd H L0 (.lst (six.map V.str))) L1 (.lst (ns.map V.str))) L2 (.lst (six.map V.str ++ ns.map V.str))) L2 = some (.lst (six.map V.str ++ ns.map V.str)) := upd_same
    have u02 := Same.trans u0 (Same.trans u1 u2)
    generalize upd (upd (upd H L0 (.lst (six.map V.str))) L1 (.lst (ns.map V.str))) L2 (.lst (six.map V.str ++ ns.map V.str)) = H1 at u02 e2 ⊢
    walk_at "rd"
    refine ⟨t, _, rfl, .inr (Bx.Same.tup u02 ht), fun L3 n3 => ?_⟩
    have u3 := same_new n3 (o := .lst (ns.map V.str))
    refine ⟨L2, L3, _, _, rfl, rfl, u3 _ _ e2, upd_same, sz (by rw [List.length_append, List.length_map, List.length_map]; show 6 + ns.length + ns.length ≤ 100000; omega), fun L n4 => ?_⟩
    have u4 := Same.trans u3 (same_new n4 (o := .lst ((six.map V.str ++ ns.map V.str) ++ ns.map V.str)))
    have hL : (upd (upd H1 L3 (.lst (ns.map V.str))) L (.lst ((six.map V.str ++ ns.map V.str) ++ ns.map V.str))) L = some (.lst ((six ++ ns ++ ns).map V.str)) := by rw [upd_same, List.map_append, List.map_append]
    have nL : H L = none := (Same.trans u02 u3).free n4
    have u := Same.trans u02 u4
    generalize upd (upd H1 L3 (.lst (ns.map V.str))) L (.lst ((six.map V.str ++ ns.map V.str) ++ ns.map V.str)) = H2 at u hL ⊢
    clear u0 u1 u2 u3 u4 u02 e2 n0 n1 n2 n3 n4
    have nLs : L ≠ src := (src_ne hA nL).symm
    have hA2 := src_same hA u
    have hlen : ((six ++ ns ++ ns).map V.str).length = 6 + 2 * ns.length := by
      rw [List.length_map, List.length_append, List.length_append]
      show 6 + ns.length + ns.length = _
      omega
    have hlen2 : (six ++ ns ++ ns).length = 6 + 2 * ns.length := by
      rw [← hlen, List.length_map]
    walk_at "rd"
    refine ⟨_, _, rfl, .inl (sq hL), ?_⟩
    refine draw_of hA2 (by rw [hlen]; constructor <;> omega) fun r3 H3 r30 r31 s3 hA3 => ?_
    rw [hlen] at r31
    obtain ⟨x, hx, ax⟩ := elt_of (l := six ++ ns ++ ns) r30 (by rw [hlen2]; exact r31)
    have hL3 := s3 _ _ nLs hL
    refine ⟨_, _, _, _, rfl, rfl, sq hL3, ax, ?_⟩
    walk_at "rd"
    refine ⟨_, _, rfl, .inl (sq hL3), ?_⟩
    refine draw_of hA3 (by rw [hlen]; constructor <;> omega) fun r4 H4 r40 r41 s4 hA4 => ?_
    rw [hlen] at r41
    obtain ⟨y, hy, ay⟩ := elt_of (l := six ++ ns ++ ns) r40 (by rw [hlen2]; exact r41)
    have hL4 := s4 _ _ nLs hL3
    refine ⟨_, _, _, _, rfl, rfl, sq hL4, ay, ?_⟩
    walk_at "rd"
    refine draw_of hA4 ⟨by decide, by decide⟩ fun r5 H5 _ _ s5 hA5 => ?_
    have b5 : SameBut src H H5 := (Bx.Same.but u).trans (s3.trans (s4.trans s5))
    walk_at "rd"
    refine if_asg (fun v H' => ∃ y' : Str, v = .str y' ∧ y' ∈ six ++ ns ++ ns ∧ H' = H5) rfl (fun _ Z k => ?_) (fun _ => ?_) ?_
    · exact ⟨_, rfl, k _ _ ⟨x, rfl, hx, rfl⟩⟩
    · exact ⟨y, rfl, hy, rfl⟩
    rintro _ H6 ⟨y, rfl, hy, e6⟩
    subst e6
    have ht5 := sqt_but hA b5 ht
    have ok : okStep ns x y = ((decide (x = emp) || decide (x ∈ ns)) && ((decide (y = emp) || decide (y ∈ ns)) && (decide (x ≠ y) || decide (x = emp)))) := by
      rw [ok_eq ns x y, Bool.and_assoc]
    have eqL : ∀ (i : Nat) (z : Str) (σ : List (Option V)), σ[i]? = some (some (V.str z)) → Gv (tOp rEq (tVar i) (tC (V.str (Str.ofString "")))) σ H6 (decide (z = emp)) := fun i z σ hs Q q => by
      refine ⟨_, hs, ?_⟩
      walk_at "rd"
      rw [dec_str]
      exact q
    have inL : ∀ (i : Nat) (z : Str) (σ : List (Option V)), σ[i]? = some (some (V.str z)) → σ[1]? = some (some (V.ref t)) → Gv (tOp (rIn K false) (tVar i) (tVar 1)) σ H6 (decide (z ∈ ns)) := fun i z σ hs h1 Q q => by
      refine ⟨_, hs, _, h1, ?_⟩
      refine ⟨t, _, rfl, .inr ht5, rfl, flat_strs ns, ?_⟩
      rw [inV_str]
      exact q
    have neL : ∀ (σ : List (Option V)), σ[3]? = some (some (V.str x)) → σ[4]? = some (some (V.str y)) → Gv (tOp rNe (tVar 3) (tVar 4)) σ H6 (decide (x ≠ y)) := fun σ h3 h4 Q q => by
      refine ⟨_, h3, _, h4, ?_⟩
      walk_at "rd"
      rw [ne_str]
      exact q
    refine Gv.and (Gv.or (eqL 3 x _ rfl) (inL 3 x _ rfl rfl)) (Gv.and (Gv.or (eqL 4 y _ rfl) (inL 4 y _ rfl rfl)) (Gv.or (neL _ rfl rfl) (eqL 3 x _ rfl))) _ ?_
    rw [← ok]
    walk_at "rd"
    show spBound _ _ _ _
    unfold spBound
    refine ⟨src, rfl, hA5, fun c H7 s7 hA7 => ?_⟩
    walk_at "rd"
    refine ⟨sz (by show 3 ≤ 100000; decide), fun p np => ?_⟩
    have u1 := same_new np (o := .tup [.str x, .str y, .int c])
    have hp : (upd H7 p (.tup [.str x, .str y, .int c])) p = some (.tup [.str x, .str y, .int c]) := upd_same
    have ht7 := Bx.Same.tup u1 (sqt_but hA5 s7 ht5)
    have hA8 := src_same hA7 u1
    have b8 : SameBut src H (upd H7 p (.tup [.str x, .str y, .int c])) := b5.trans (s7.trans (Bx.Same.but u1))
    generalize upd H7 p (.tup [.str x, .str y, .int c]) = H8 at hp ht7 hA8 b8 ⊢
    walk_at "rd"
    refine fun k dk nk nd ne => ?_
    obtain ⟨u2, hk⟩ := bare_new (C := C) nk nd ne
    generalize upd (upd H8 dk (.own k)) k (.ins C dk []) = H9 at u2 hk ⊢
    refine ⟨k, dk, [], rfl, hk, rfl, ?_⟩
    walk_at "rd"
    show spSV K C _ _ _ _
    unfold spSV
    refine ⟨k, dk, t, p, [], ns, x, y, c, rfl, hk, rfl, Bx.Same.tup u2 ht7, sqt (u2 _ _ hp), fun H10 u3 => ?_⟩
    have u23 := Same.trans u2 u3
    walk_at "rd"
    refine ⟨_, _, _, _, true, rfl, .ty "bool", .base (.bl _), kit_ty (by decide +kernel), ?_⟩
    walk_at "rd"
    rw [show (!decide (V.bl (okStep ns x y) = V.bl (okStep ns x y))) = false by simp]
    refine ite2 (fun h0 => absurd h0 (by decide)) (fun _ => ?_)
    walk_at "rd"
    have b10 : SameBut src H H10 := b8.trans (Bx.Same.but u23)
    have hA10 := src_same hA8 u23
    refine ite2 (fun h0 => ?_) (fun h0 => ?_)
    · walk_at "rd"
      exact q _ b10 hA10
    · walk_at "rd"
      refine fun k2 dk2 nk2 nd2 ne2 => ?_
      obtain ⟨u4, hk2⟩ := bare_new (C := C) nk2 nd2 ne2
      generalize upd (upd H10 dk2 (.own k2)) k2 (.ins C dk2 []) = H11 at u4 hk2 ⊢
      refine ⟨k2, dk2, [], rfl, hk2, rfl, ?_⟩
      walk_at "rd"
      have u14 := Same.trans u23 u4
      show spNIn K _ _ _ _
      unfold spNIn
      refine ⟨k2, p, x, y, c, rfl, sqt (u14 _ _ hp), fun r H12 u5 nr hr12 => ?_⟩
      walk_at "rd"
      refine ⟨sz (by show 2 ≤ 100000; decide), fun L5 n5 => ?_⟩
      have u6 := same_new n5 (o := .lst ([x, y].map V.str))
      have hL5 : (upd H12 L5 (.lst ([x, y].map V.str))) L5 = some (.lst ([x, y].map V.str)) := upd_same
      rw [show [V.str x, V.str y] = [x, y].map V.str from rfl]
      generalize upd H12 L5 (.lst ([x, y].map V.str)) = H13 at u6 hL5 ⊢
      refine ⟨L5, rfl, ⟨_, sq hL5⟩, fun D hD => ?_⟩
      refine lc_it walk_list (fun i H' => H' = upd H13 D (.lst ((([x, y].take i).filter fun z => decide (z ≠ emp)).map V.str))) rfl (fun i H' _ e => e ▸ sq (same_new hD _ _ hL5)) ?_ ?_
      · rintro i v H14 H15 hi rfl ⟨rfl, hx'⟩
        obtain ⟨z, hz, rfl⟩ := at_map (l := [x, y]) hx'
        refine ⟨rfl, ?_⟩
        walk_at "rd"
        refine ite2 (fun h6 => ?_) (fun h6 => ?_)
        · have hne : decide (z ≠ emp) = true := by rw [← ne_str]; exact h6
          walk_at "rd"
          refine ⟨_, upd_same, ?_, ?_⟩
          · rw [List.length_map]
            exact szl (Nat.lt_of_le_of_lt (Nat.le_trans (List.length_filter_le _ _) (List.length_take_le' i [x, y])) (by show 2 < 100000; omega))
          · rw [upd_upd, take_filter hz, show [z].filter (fun z => decide (z ≠ emp)) = [z] by rw [List.filter_cons, if_pos hne, List.filter_nil], List.map_append]
            rfl
        · have hne : ¬ decide (z ≠ emp) = true := by rw [← ne_str]; exact h6
          rw [take_filter hz, show [z].filter (fun z => decide (z ≠ emp)) = [] by rw [List.filter_cons, if_neg hne, List.filter_nil], List.append_nil]
      rintro H14 rfl
      have sM := same_new hD (o := .lst ((([x, y].take ([x, y].map V.str).length).filter fun z => decide (z ≠ emp)).map V.str))
      have hM : (upd H13 D (.lst ((([x, y].take ([x, y].map V.str).length).filter fun z => decide (z ≠ emp)).map V.str))) D = some (.lst ((ends x y).map V.str)) := upd_same
      generalize upd H13 D (.lst ((([x, y].take ([x, y].map V.str).length).filter fun z => decide (z ≠ emp)).map V.str)) = H14 at sM hM ⊢
      walk_at "rd"
      refine ⟨D, _, rfl, .inl ⟨sq hM, fun T nT => ?_⟩⟩
      have u7 := same_new nT (o := .tup ((ends x y).map V.str))
      have s12 : Same H12 (upd H14 T (.tup ((ends x y).map V.str))) := Same.trans u6 (Same.trans sM u7)
      have okx := ok_six hok
      have ly : Lay 1 (.tuple ((ends x y).map PyData.str)) := lay_tuple (lays_strs fun z hz => by
        rcases ((ends_mem).mp hz).1 with e | e
        · rw [e]; exact okx x hx
        · rw [e]; exact okx y hy)
      refine ⟨.tuple ((ends x y).map PyData.str), .tuple ((ends x y).map PyData.str), names_dp (sqt (s12 _ _ hr12)), names_dp (sqt upd_same), shape ly (by decide), shape ly (by decide), ?_⟩
      rw [eq_refl ly]
      have bZ : Same H10 (upd H14 T (.tup ((ends x y).map V.str))) := Same.trans u4 (Same.trans u5 s12)
      exact q _ (b10.trans (Bx.Same.but bZ)) (src_same hA10 bZ)
end
end K14
namespace K14
local macro_rules | `(tactic| walk_at "rd") => `(tactic| repeat (first | refine ⟨rfl, ?_⟩ | refine ⟨_, rfl, ?_⟩ | refine ⟨_, _, rfl, rfl, ?_⟩ | refine ⟨⟨_, rfl⟩, ?_⟩))
open PySem PySem.Spec PyProof.Rows L2 Bx TL Dx Zx Ow Sup NdefX Px
/-! ### the value that fits -/
def mx : List Int → Int
  | [] => 0
  | [a] => a
  | a :: b :: r => max a (mx (b :: r))
def mn : List Int → Int
  | [] => 0
  | [a] => a
  | a :: b :: r => min a (mn (b :: r))
theorem mx_mem : ∀ {l : List Int}, l ≠ [] → mx l ∈ l
  | [a], _ => List.mem_cons_self ..
  | a :: b :: r, _ => by
    have h := mx_mem (l := b :: r) (by simp)
    show max a (mx (b :: r)) ∈ _
    by_cases c : a ≤ mx (b :: r)
    · rw [Int.max_eq_right c]
      exact List.mem_cons_of_mem _ h
    · rw [Int.max_eq_left (by omega)]
      exact List.mem_cons_self ..
theorem mx_ge : ∀ {l : List Int} {y : Int}, y ∈ l → y ≤ mx l
  | [a], y, h => by
    rw [List.mem_singleton.mp h]
    exact Int.le_refl _
  | a :: b :: r, y, h => by
    show y ≤ max a (mx (b :: r))
    rcases List.mem_cons.mp h with h | h
    · rw [h]
      exact Int.le_max_left ..
    · exact Int.le_trans (mx_ge h) (Int.le_max_right ..)
theorem mn_mem : ∀ {l : List Int}, l ≠ [] → mn l ∈ l
  | [a], _ => List.mem_cons_self ..
  | a :: b :: r, _ => by
    have h := mn_mem (l := b :: r) (by simp)
    show min a (mn (b :: r)) ∈ _
    by_cases c : a ≤ mn (b :: r)
    · rw [Int.min_eq_left c]
      exact List.mem_cons_self ..
    · rw [Int.min_eq_right (by omega)]
      exact List.mem_cons_of_mem _ h
theorem mn_le : ∀ {l : List Int} {y : Int}, y ∈ l → mn l ≤ y
  | [a], y, h => by
    rw [List.mem_singleton.mp h]
    exact Int.le_refl _
  | a :: b :: r, y, h => by
    show min a (mn (b :: r)) ≤ y
    rcases List.mem_cons.mp h with h | h
    · rw [h]
      exact Int.min_le_left ..
    · exact Int.le_trans (Int.min_le_right ..) (mn_le h)
theorem mx_one {l : List Int} {m : Int} (h : m ∈ l) (g : ∀ y ∈ l, y ≤ m) : m = mx l := Int.le_antisymm (mx_ge h) (g _ (mx_mem (by rintro rfl; cases h)))
theorem mn_one {l : List Int} {m : Int} (h : m ∈ l) (g : ∀ y ∈ l, m ≤ y) : m = mn l := Int.le_antisymm (g _ (mn_mem (by rintro rfl; cases h))) (mn_le h)
def lows (l : As) (z : Str) (cs : List Ctr) : List Int := (cs.filter fun c => decide (c.2.1 = z)).map fun c => vl l c.1 - c.2.2
def highs (l : As) (z : Str) (cs : List Ctr) : List Int := (cs.filter fun c => decide (c.1 = z)).map fun c => vl l c.2.1 + c.2.2
def pick (lo hi : List Int) : Int := if lo = [] then (if hi = [] then 0 else mn hi) else mx lo
def put (l : As) (z : Str) (v : Int) : As := l ++ [(z, v)]
/-- the value that lift gives, if one fits -/
def fit (l : As) (z : Str) (cs : List Ctr) : Option Int := if cs.all (hold (put l z (pick (lows l z cs) (highs l z cs)))) = true then some (pick (lows l z cs) (highs l z cs)) else none
theorem filter_take {p : Ctr → Bool} {g : Ctr → Int} {l : List Ctr} {i : Nat} {c : Ctr} (h : l[i]? = some c) : ((l.take (i + 1)).filter p).map g = ((l.take i).filter p).map g ++ (if p c then [g c] else []) := by
  rw [List.take_add_one, h, List.filter_append, List.map_append]
  congr 1
  show ([c].filter p).map g = _
  cases e : p c with
  | true => rw [List.filter_cons, if_pos e, List.filter_nil]; rfl
  | false => rw [List.filter_cons, if_neg (by rw [e]; decide), List.filter_nil]; rfl
theorem put_as {l : As} {z : Str} {v : Int} (h : z ∉ l.map (·.1)) : putK (asV l) (.inr z) (.int v) = asV (put l z v) := by
  unfold putK
  have e : ((asV l).any fun kv => decide (kv.1 = .inr z)) = false := by
    rw [List.any_eq_false]
    intro kv hk
    unfold asV at hk
    obtain ⟨p, hp, rfl⟩ := List.mem_map.mp hk
    simp only [decide_eq_true_eq]
    intro e
    exact h (List.mem_map.mpr ⟨p, hp, Sum.inr.inj e⟩)
  rw [e]
  show asV l ++ [(.inr z, .int v)] = _
  unfold asV put
  rw [List.map_append]
  rfl
theorem set_gi {te : TE} {i : Nat} {D : Ends} {rest : TS} {σ : List (Option V)} {H : Hp} (R : V → Hp → Prop) (h : ∀ Z : VK, (∀ v H', R v H' → Z v H') → te σ H Z) (k : ∀ v H', R v H' → rest D (σ.set i (some v)) H') : tSeq (tAsg te (gName i)) rest D σ H :=
  h (fun v H' => rest D (σ.set i (some v)) H') k
theorem dp_ints {K : PySem.W.Frag} {H : Hp} : ∀ l : List Int, DpAll K H (l.map V.int) (l.map PyData.int)
  | [] => .nil
  | a :: r => .cons (.int a) (dp_ints r)
theorem app_len (x y : Str) : (x ++ y).length = x.length + y.length := by
  rw [len_tl, tl_append, List.length_append, ← len_tl, ← len_tl]
/-- the error class, as the top leaves it -/
structure ErN (K : PySem.W.Frag) (mg : Str → Option Value) (CF : Addr) : Prop where
  gF : mg "NoSolution" = some (.ref CF)
  xF : PySem.W.excIn K CF [.type "ValueError", .type "Exception", .type "BaseException", .type "object"] "ValueError.__new__" = true
  kF : PySem.W.keepIn K (.ref CF) = true
  bF : PySem.W.subIn K (.ref CF) (.type "BaseException") = some true
  tF : PySem.W.typeIn K (.ref CF) = some (.type "type")
section
variable {P : Program} {w : World} {K : PySem.W.Frag} {mg : Str → Option Value} {base : Heap}
/-- the ends of these constraints are z or have values -/
def KnZ (l : As) (z : Str) (cs : List Ctr) : Prop := ∀ c ∈ cs, (c.1 = z ∨ Kn l c.1) ∧ (c.2.1 = z ∨ Kn l c.2.1) ∧ (c.1 = c.2.1 → c.1 = emp)
@[irreducible] def spLift (K : PySem.W.Frag) (C CF : Addr) : Sp := fun vs H Q E => ∃ (a dx T na ca d : Addr) (fs : List (Str × V)) (xs : List V) (ns : List Str) (cs : List Ctr) (l : As) (z : Str), vs = [.ref a, .ref T, .str z, .ref d] ∧ H a = some (.ins C dx fs) ∧ fs.lookup ("holds" : Str) = none ∧ Th K H T na ca xs ns cs ∧ H d = some (.dK (asV l)) ∧ cs.length ≤ 1000 ∧ l.length ≤ 1000 ∧
  z ≠ emp ∧ z.length ≤ 100 ∧ z ∉ l.map (·.1) ∧ KnZ l z cs ∧ (∀ v, fit l z cs = some v → ∀ H', Same H H' → Q (.int v) H') ∧ (fit l z cs = none → ∀ H', Same H H' → E (.ref CF) none H')
set_option maxHeartbeats 2000000 in
theorem ok_lift {C CF : Addr} (er : ErN K mg CF) {f : Addr} {fd : FuncData} (F : Fun K "lift" "Steps.lift" s_Steps_lift f fd) (m_max : mg "max" = none) (m_min : mg "min" = none) (C__value : Cal P w K mg base "_value" 1 ["side", "assignment"] spVal) (C_satisfies : Cal P w K mg base "satisfies" 3 ["kind", "theory", "assignment"] (spSat K C)) : FnOk P w K mg base (L2.CX P w) 4 f fd ["self", "theory", "name", "assignment"] (spLift K C CF) := by
  refine F.okX sc_Steps_lift (fun vs H Q E h => ?_) (fun cdv A outer s H vs Q E hr h => ?_)
  · unfold spLift at h
    obtain ⟨a, dx, T, na, ca, d, fs, xs, ns, cs, l, z, rfl, _⟩ := h
    rfl
  · unfold spLift at h
    obtain ⟨a, dx, T, na, ca, d, fs, xs, ns, cs, l, z, rfl, ha, hn, th, hd, hcl, hll, z0, zl100, zl, kn, q, qe⟩ := h
    have hu := hu_of hr
    refine ⟨_, (pss_cons (ps_set (i := 4) sc_Steps_lift.nd rfl (Or.inl rfl) (pe_ix ix_tup (pv 1) pe_int (fun _ _ => rfl)))
    (pss_cons (ps_setLc (i := 5) (own := [("x", 8), ("y", 9), ("c", 10)]) rfl sc_Steps_lift.nd rfl rfl (sw_true rfl rfl rfl (by decide +kernel)) (pi_tup (pv 4)) (blkOk_by (N := n_Steps_lift) (sc := defScope s_Steps_lift) (by decide +kernel)) (fun _ _ _ _ _ => pg_tupK (K := K) (n := 3) rfl rfl (pgs_cons (pg_name (i := 8) sc_Steps_lift.nd rfl (Or.inl rfl)) (pgs_cons (pg_name (i := 9) sc_Steps_lift.nd rfl (Or.inl rfl)) (pgs_cons (pg_name (i := 10) sc_Steps_lift.nd rfl (Or.inl rfl)) pgs_nil)))) (fun _ _ _ _ _ => pts_one (pt_cmpR op_eq (pv 9) (pv 2) (nomark _))) (fun _ _ _ _ _ => (pe_op op_sub (pe_cal C__value (hr.mono (by decide)) (pa_cons (pv 8) (pa_cons (pv 3) pa_nil))) (pv 10))))
    (pss_cons (ps_setLc (i := 6) (own := [("x", 8), ("y", 9), ("c", 10)]) rfl sc_Steps_lift.nd rfl rfl (sw_true rfl rfl rfl (by decide +kernel)) (pi_tup (pv 4)) (blkOk_by (N := n_Steps_lift) (sc := defScope s_Steps_lift) (by decide +kernel)) (fun _ _ _ _ _ => pg_tupK (K := K) (n := 3) rfl rfl (pgs_cons (pg_name (i := 8) sc_Steps_lift.nd rfl (Or.inl rfl)) (pgs_cons (pg_name (i := 9) sc_Steps_lift.nd rfl (Or.inl rfl)) (pgs_cons (pg_name (i := 10) sc_Steps_lift.nd rfl (Or.inl rfl)) pgs_nil)))) (fun _ _ _ _ _ => pts_one (pt_cmpR op_eq (pv 8) (pv 2) (nomark _))) (fun _ _ _ _ _ => (pe_op op_add (pe_cal C__value (hr.mono (by decide)) (pa_cons (pv 9) (pa_cons (pv 3) pa_nil))) (pv 10))))
    (pss_cons (ps_set (i := 7) sc_Steps_lift.nd rfl (Or.inl rfl) (pe_ifExp (pt_cmpR (op_neD hr.units) (pv 5) (pe_lst pa_nil) (nomark _)) (pe_callB (id := "max") (cr_max rfl) (by rfl) m_max (by decide +kernel) (pa_cons (pv 5) pa_nil)) (Mn.pe_minD rfl (by rfl) m_min (pa_cons (pv 6) pa_nil) (pk_cons pe_int pk_nil))))
    (pss_cons (ps_if (pt_not (pt_val (pe_cal C_satisfies (hr.mono (by decide)) (pa_cons (pv 0) (pa_cons (pv 1) (pa_cons (Dd.pe_dstar (pv 3) (pv 2) (pv 7)) pa_nil))))))
      (pss_one (ps_raise rfl (takes_of rfl rfl rfl rfl) (SkE.pmk_own1 PySem.F.excBase_ValueError er.xF er.gF er.kF (raises_own er.bF er.tF) (by exact rfl) (pe_joined (.cons pe_str (.cons (pe_fmt (pv 2)) .nil))))))
      pss_nil)
    (pss_one (ps_ret (pv 7)))))))), ?_⟩
    walk_at "rd"
    refine ⟨_, _, _, _, rfl, rfl, th.t, atI_nat (j := 1) rfl, ?_⟩
    have xl : xs.length = cs.length := by rw [da_len th.d, List.length_map]
    walk_at "rd"
    refine ⟨⟨_, th.c⟩, fun D hD => ?_⟩
    refine lc_it walk_tup (fun i H' => H' = upd H D (.lst ((lows l z (cs.take i)).map V.int))) rfl (fun i H' _ e => e ▸ Bx.Same.tup (same_new hD) th.c) ?_ ?_
    · rintro i v H2 H3 hi rfl ⟨rfl, hx⟩
      have sD := same_new hD (o := .lst ((lows l z (cs.take i)).map V.int))
      obtain ⟨c, hc, dc⟩ := da_at th.d hx
      obtain ⟨p, rfl, hp⟩ := ctr_dp dc
      obtain ⟨x, y, k⟩ := c
      obtain ⟨k1, k2, k3⟩ := kn _ (List.mem_of_getElem? hc)
      refine ⟨p, _, rfl, Bx.Same.tup sD hp, rfl, _, _, rfl, _, _, rfl, _, _, rfl, rfl, rfl, ?_⟩
      walk_at "rd"
      rw [dec_str]
      have lt : ((lows l z (cs.take i)).map V.int).length < sizeLine := by
        unfold lows
        rw [List.length_map, List.length_map]
        exact szl (Nat.lt_of_le_of_lt (Nat.le_trans (List.length_filter_le _ _) (List.length_take_le' i cs)) (by omega))
      refine ite2 (fun h6 => ?_) (fun h6 => ?_)
      · have e6 : y = z := of_decide_eq_true h6
        have kx : Kn l x := k1.resolve_left fun e => z0 (by rw [← show x = z from e]; exact k3 (by show x = y; have e' : x = z := e; rw [e', e6]))
        walk_at "rd"
        refine value_of (sD _ _ hd) kx ?_
        walk_at "rd"
        refine ⟨_, upd_same, lt, ?_⟩
        rw [upd_upd]
        unfold lows
        rw [filter_take hc, if_pos h6, List.map_append]
        rfl
      · unfold lows
        rw [filter_take hc, if_neg h6, List.append_nil]
    rintro H2 rfl
    have s1 := same_new hD (o := .lst ((lows l z (cs.take xs.length)).map V.int))
    have hL : (upd H D (.lst ((lows l z (cs.take xs.length)).map V.int))) D = some (.lst ((lows l z cs).map V.int)) := by
      rw [upd_same, xl, List.take_length]
    generalize upd H D (.lst ((lows l z (cs.take xs.length)).map V.int)) = H1 at s1 hL ⊢
    walk_at "rd"
    refine ⟨⟨_, Bx.Same.tup s1 th.c⟩, fun D2 hD2 => ?_⟩
    refine lc_it walk_tup (fun i H' => H' = upd H1 D2 (.lst ((highs l z (cs.take i)).map V.int))) rfl (fun i H' _ e => e ▸ Bx.Same.tup (Same.trans s1 (same_new hD2)) th.c) ?_ ?_
    · rintro i v H2 H3 hi rfl ⟨rfl, hx⟩
      have sD := Same.trans s1 (same_new hD2 (o := .lst ((highs l z (cs.take i)).map V.int)))
      obtain ⟨c, hc, dc⟩ := da_at th.d hx
      obtain ⟨p, rfl, hp⟩ := ctr_dp dc
      obtain ⟨x, y, k⟩ := c
      obtain ⟨k1, k2, k3⟩ := kn _ (List.mem_of_getElem? hc)
      refine ⟨p, _, rfl, Bx.Same.tup sD hp, rfl, _, _, rfl, _, _, rfl, _, _, rfl, rfl, rfl, ?_⟩
      walk_at "rd"
      rw [dec_str]
      have lt : ((highs l z (cs.take i)).map V.int).length < sizeLine := by
        unfold highs
        rw [List.length_map, List.length_map]
        exact szl (Nat.lt_of_le_of_lt (Nat.le_trans (List.length_filter_le _ _) (List.length_take_le' i cs)) (by omega))
      refine ite2 (fun h6 => ?_) (fun h6 => ?_)
      · have e6 : x = z := of_decide_eq_true h6
        have ky : Kn l y := k2.resolve_left fun e => z0 (by rw [← e6]; exact k3 (by show x = y; have e' : y = z := e; rw [e', e6]))
        walk_at "rd"
        refine value_of (sD _ _ hd) ky ?_
        walk_at "rd"
        refine ⟨_, upd_same, lt, ?_⟩
        rw [upd_upd]
        unfold highs
        rw [filter_take hc, if_pos h6, List.map_append]
        rfl
      · unfold highs
        rw [filter_take hc, if_neg h6, List.append_nil]
    rintro H2 rfl
    have s2 := same_new hD2 (o := .lst ((highs l z (cs.take xs.length)).map V.int))
    have hG : (upd H1 D2 (.lst ((highs l z (cs.take xs.length)).map V.int))) D2 = some (.lst ((highs l z cs).map V.int)) := by
      rw [upd_same, xl, List.take_length]
    have hL2 := s2 _ _ hL
    have s12 := Same.trans s1 s2
    generalize upd H1 D2 (.lst ((highs l z (cs.take xs.length)).map V.int)) = H2 at s12 hL2 hG ⊢
    clear s1 s2 hL hD2
    dsimp only [gName]
    refine set_gi (te := tIf _ _ _) (i := 7) (fun v H' => v = .int (pick (lows l z cs) (highs l z cs)) ∧ Same H2 H') (fun Z hZ => ?_) (fun v H3 => ?_)
    · walk_at "rd"
      refine ⟨sz (by show 0 ≤ 100000; decide), fun L3 n3 => ?_⟩
      have s3 := same_new n3 (o := .lst [])
      have l1 : Lay 1 (.list ((lows l z cs).map PyData.int)) := lay_list lays_ints
      have l2 : Lay 1 (.list []) := lay_list lays_nil
      refine ⟨.list ((lows l z cs).map PyData.int), .list [], .lst (sq (s3 _ _ hL2)) (dp_ints _), .lst (sq upd_same) .nil, shape l1 (by decide), shape l2 (by decide), ?_⟩
      have ev : PyData.eqv (.list ((lows l z cs).map PyData.int)) (.list []) = decide (lows l z cs = []) := by
        cases lows l z cs with
        | nil => rfl
        | cons a r => rfl
      rw [ev]
      walk_at "rd"
      refine ite2 (fun h6 => ?_) (fun h6 => ?_)
      · have ne : lows l z cs ≠ [] := ne_t h6
        walk_at "rd"
        refine ⟨D, _, rfl, sq (s3 _ _ hL2), List.length_pos_iff.mpr ne, fun m hm hle => ?_⟩
        rw [mx_one hm hle]
        exact hZ _ _ ⟨by unfold pick; rw [if_neg ne], s3⟩
      · have e0 : lows l z cs = [] := ne_f h6
        walk_at "rd"
        refine ⟨D2, _, _, rfl, rfl, sq (s3 _ _ hG), fun eh => ?_, fun m hm hle => ?_⟩
        · exact hZ _ _ ⟨by unfold pick; rw [if_pos e0, if_pos eh], s3⟩
        · rw [mn_one hm hle]
          exact hZ _ _ ⟨by unfold pick; rw [if_pos e0, if_neg (by intro e; rw [e] at hm; cases hm)], s3⟩
    rintro ⟨rfl, s3⟩
    have s13 := Same.trans s12 s3
    generalize hv : pick (lows l z cs) (highs l z cs) = v
    walk_at "rd"
    refine fun p np => ?_
    have nap : d ≠ p := fun e => by rw [← e, s13 _ _ hd] at np; cases np
    walk_at "rd"
    refine ⟨d, asV l, rfl, (by rw [upd_ne nap]; exact s13 _ _ hd), nap, upd_same, (by rw [show (asV l).length = l.length from List.length_map _]; exact sz (by omega)), fun p2 np2 => ?_⟩
    have n12 : p2 ≠ p := fun e => by rw [e, upd_same] at np2; cases np2
    have np2' : H3 p2 = none := by rw [upd_upd, upd_ne n12] at np2; exact np2
    walk_at "rd"
    refine ⟨.inr z, .int v, rfl, by rw [upd_ne (Ne.symm n12), upd_same], upd_same, ?_⟩
    rw [put_as zl, upd_upd]
    generalize hH : upd (upd _ p2 (.dK [(Sum.inr z, V.int v)])) p (.dK (asV (put l z v))) = H4
    have s4 : Same H3 H4 := fun b o hb => by
      rw [← hH, upd_ne (ne_of_none hb np), upd_ne (ne_of_none hb np2'), upd_upd, upd_ne (ne_of_none hb np)]
      exact hb
    have hp4 : H4 p = some (.dK (asV (put l z v))) := by rw [← hH, upd_same]
    clear hH
    have s14 := Same.trans s13 s4
    walk_at "rd"
    show spSat K C _ _ _ _
    unfold spSat
    have kz : ∀ x, x = z ∨ Kn l x → Kn (put l z v) x := fun x h => by
      unfold Kn put
      rw [List.map_append, List.mem_append]
      rcases h with e | e | e
      · exact .inr (.inr (by rw [e]; exact List.mem_singleton.mpr rfl))
      · exact .inl e
      · exact .inr (.inl e)
    refine ⟨a, dx, T, na, ca, p, fs, xs, ns, cs, put l z v, rfl, s14 _ _ ha, hn, th.same s14, hp4, hcl, fun c hc => ⟨kz _ (kn c hc).1, kz _ (kn c hc).2.1⟩, fun H5 s5 => ?_⟩
    have s15 := Same.trans s14 s5
    walk_at "rd"
    have ef : fit l z cs = if cs.all (hold (put l z v)) = true then some v else none := by
      unfold fit
      rw [hv]
    refine ite2 (fun h6 => ?_) (fun h6 => ?_)
    · have h7 : cs.all (hold (put l z v)) = false := by simpa using h6
      rw [h7] at ef
      walk_at "rd"
      have l0 : Str.empty.length = 0 := rfl
      have l1 : (Str.ofString "no value fits for ").length = 18 := by decide +kernel
      have c1 : 100000 < sizeLine := by rw [sizeLine_eq]; decide
      refine ⟨by rw [app_len]; omega, _, rfl, .inl ⟨_, rfl, by omega, ?_⟩⟩
      refine ⟨_, rfl, by rw [app_len, app_len]; omega, ?_⟩
      walk_at "rd"
      exact qe ef _ s15
    · have h7 : cs.all (hold (put l z v)) = true := by simpa using h6
      rw [h7] at ef
      walk_at "rd"
      exact q v ef _ s15
end
end K14
namespace K14
local macro_rules | `(tactic| walk_at "rd") => `(tactic| repeat (first | refine ⟨rfl, ?_⟩ | refine ⟨_, rfl, ?_⟩ | refine ⟨_, _, rfl, rfl, ?_⟩ | refine ⟨⟨_, rfl⟩, ?_⟩))
open PySem PySem.Spec PyProof.Rows L2 Bx TL Dx Zx Ow Sup NdefX Px
theorem st_gi {t : TS} {i : Nat} {D : Ends} {rest : TS} {σ : List (Option V)} {H : Hp} (R : V → Hp → Prop) (h : ∀ D' : Ends, (∀ v H', R v H' → D'.nx (σ.set i (some v)) H') → t D' σ H) (k : ∀ v H', R v H' → rest D (σ.set i (some v)) H') : tSeq t rest D σ H :=
  h { D with nx := rest D } k
/-! ### when the value fits -/
theorem find_put {l : As} {z x : Str} {v : Int} : ((put l z v).find? fun p => decide (p.1 = x)) = ((l.find? fun p => decide (p.1 = x)).or (if z = x then some (z, v) else none)) := by
  unfold put
  rw [List.find?_append]
  congr 1
  by_cases e : z = x
  · rw [if_pos e, List.find?_cons, decide_eq_true e]
  · rw [if_neg e, List.find?_cons, decide_eq_false e]
    rfl
theorem vl_ne {l : As} {z x : Str} {v : Int} (h : x ≠ z) : vl (put l z v) x = vl l x := by
  unfold vl
  by_cases e : x = emp
  · rw [if_pos e, if_pos e]
  · rw [if_neg e, if_neg e, find_put, if_neg (Ne.symm h), Option.or_none]
theorem vl_eq {l : As} {z : Str} {v : Int} (h0 : z ≠ emp) (h : z ∉ l.map (·.1)) : vl (put l z v) z = v := by
  unfold vl
  have e : (l.find? fun p => decide (p.1 = z)) = none := List.find?_eq_none.mpr fun p hp e => h (List.mem_map.mpr ⟨p, hp, of_decide_eq_true e⟩)
  rw [if_neg h0, find_put, e, if_pos rfl]
  rfl
theorem hold_hi {l : As} {z : Str} {c : Ctr} {v : Int} (h0 : z ≠ emp) (h : z ∉ l.map (·.1)) (e1 : c.1 = z) (e2 : c.2.1 ≠ z) : hold (put l z v) c = decide (v ≤ vl l c.2.1 + c.2.2) := by
  unfold hold
  rw [vl_ne e2, e1, vl_eq h0 h]
  exact decide_eq_decide.mpr ⟨fun _ => by omega, fun _ => by omega⟩
theorem hold_lo {l : As} {z : Str} {c : Ctr} {v : Int} (h0 : z ≠ emp) (h : z ∉ l.map (·.1)) (e1 : c.1 ≠ z) (e2 : c.2.1 = z) : hold (put l z v) c = decide (vl l c.1 - c.2.2 ≤ v) := by
  unfold hold
  rw [vl_ne e1, e2, vl_eq h0 h]
  exact decide_eq_decide.mpr ⟨fun _ => by omega, fun _ => by omega⟩
theorem hold_no {l : As} {z : Str} {c : Ctr} {v : Int} (e1 : c.1 ≠ z) (e2 : c.2.1 ≠ z) : hold (put l z v) c = hold l c := by
  unfold hold
  rw [vl_ne e1, vl_ne e2]
theorem fit_no {l : As} {z : Str} {cs : List Ctr} {c : Ctr} (hc : c ∈ cs) (h : hold (put l z (pick (lows l z cs) (highs l z cs))) c = false) : fit l z cs = none := by
  unfold fit
  rw [if_neg]
  intro e
  have := List.all_eq_true.mp e c hc
  rw [h] at this
  cases this
/-- the constraints without z hold -/
def oth (l : As) (z : Str) (cs : List Ctr) : Prop := ∀ c ∈ cs, c.1 ≠ z → c.2.1 ≠ z → hold l c = true
theorem fit_yes {l : As} {z : Str} {cs : List Ctr} (h0 : z ≠ emp) (h : z ∉ l.map (·.1)) (kn : KnZ l z cs) (ho : oth l z cs) (hh : ∀ y ∈ highs l z cs, pick (lows l z cs) (highs l z cs) ≤ y) : fit l z cs = some (pick (lows l z cs) (highs l z cs)) := by
  unfold fit
  rw [if_pos]
  refine List.all_eq_true.mpr fun c hc => ?_
  by_cases e1 : c.1 = z
  · have e2 : c.2.1 ≠ z := fun e2 => h0 (by rw [← e1]; exact (kn c hc).2.2 (by rw [e1, e2]))
    rw [hold_hi h0 h e1 e2]
    refine decide_eq_true (hh _ ?_)
    unfold highs
    exact List.mem_map.mpr ⟨c, List.mem_filter.mpr ⟨hc, decide_eq_true e1⟩, rfl⟩
  · by_cases e2 : c.2.1 = z
    · rw [hold_lo h0 h e1 e2]
      have hm : vl l c.1 - c.2.2 ∈ lows l z cs := by
        unfold lows
        exact List.mem_map.mpr ⟨c, List.mem_filter.mpr ⟨hc, decide_eq_true e2⟩, rfl⟩
      refine decide_eq_true ?_
      unfold pick
      rw [if_neg (by intro e; rw [e] at hm; cases hm)]
      exact mx_ge hm
    · rw [hold_no e1 e2]
      exact ho c hc e1 e2
theorem fit_high {l : As} {z : Str} {cs : List Ctr} (h0 : z ≠ emp) (h : z ∉ l.map (·.1)) (kn : KnZ l z cs) {y : Int} (hy : y ∈ highs l z cs) (hlt : y < pick (lows l z cs) (highs l z cs)) : fit l z cs = none := by
  obtain ⟨c, hc, rfl⟩ := List.mem_map.mp hy
  obtain ⟨hc, e1⟩ := List.mem_filter.mp hc
  have e1 := of_decide_eq_true e1
  have e2 : c.2.1 ≠ z := fun e2 => h0 (by rw [← e1]; exact (kn c hc).2.2 (by rw [e1, e2]))
  refine fit_no hc ?_
  rw [hold_hi h0 h e1 e2]
  exact decide_eq_false (by omega)
def nonOf : Option Int → V
  | some v => .int v
  | none => .non
section
variable {P : Program} {w : World} {K : PySem.W.Frag} {mg : Str → Option Value} {base : Heap}
@[irreducible] def spVal2 : Sp := fun vs H Q _ => ∃ (z : Str) (d : Addr) (l : As), vs = [.ref d, .str z] ∧ H d = some (.dK (asV l)) ∧ Kn l z ∧ Q (.int (vl l z)) H
theorem ok_law_value {f : Addr} {fd : FuncData} (F : Fun K "_law_value" "_law_value" s__law_value f fd) : FnOk P w K mg base CX0 1 f fd ["_law_values", "_law_name"] spVal2 := by
  refine F.ok sc__law_value (fun vs H Q E h => ?_) (fun cdv A outer s H vs Q E hr h => ?_)
  · unfold spVal2 at h
    obtain ⟨z, d, l, rfl, _⟩ := h
    rfl
  · unfold spVal2 at h
    obtain ⟨z, d, l, rfl, hd, kn, q⟩ := h
    have hu := hu_of hr
    refine ⟨_, (pss_cons (ps_if (pt_cmpR op_eq (pv 1) pe_str (nomark _))
      (pss_one (ps_ret pe_int))
      pss_nil)
    (pss_one (ps_ret (pe_dget hu (pv 0) (pv 1) (fun _ _ => rfl))))), ?_⟩
    walk_at "rd"
    refine ite2 (fun h0 => ?_) (fun h0 => ?_)
    · have e : z = emp := V.str.inj (of_decide_eq_true h0)
      have e2 : vl l z = 0 := by
        unfold vl
        rw [if_pos e]
      rw [e2] at q
      exact q
    · have hz : z ≠ emp := fun e => h0 (decide_eq_true (congrArg V.str e))
      have hm := kn.resolve_left hz
      walk_at "rd"
      refine ⟨d, _, rfl, ?_, q⟩
      rw [← has_as hm hz]
      exact DGet.k (k := .inr z) hd
theorem value2_of {H : Hp} {z : Str} {d : Addr} {l : As} {Q : VK} {E : XK} (hd : H d = some (.dK (asV l))) (kn : Kn l z) (q : Q (.int (vl l z)) H) : spVal2 [.ref d, .str z] H Q E := by
  unfold spVal2
  exact ⟨z, d, l, rfl, hd, kn, q⟩
@[irreducible] def spFirst (K : PySem.W.Frag) : Sp := fun vs H Q _ => ∃ (T na ca d : Addr) (xs : List V) (ns : List Str) (cs : List Ctr) (l : As) (z : Str), vs = [.ref T, .str z, .ref d] ∧ Th K H T na ca xs ns cs ∧ H d = some (.dK (asV l)) ∧ cs.length ≤ 1000 ∧
  z ≠ emp ∧ z ∉ l.map (·.1) ∧ KnZ l z cs ∧ ∀ H', Same H H' → Q (nonOf (fit l z cs)) H'
set_option maxHeartbeats 2000000 in
theorem ok_first {f : Addr} {fd : FuncData} (F : Fun K "_law_first" "_law_first" s__law_first f fd) (m_max : mg "max" = none) (m_min : mg "min" = none) (m_len : mg "len" = none) (C__law_value : Cal P w K mg base "_law_value" 1 ["_law_values", "_law_name"] spVal2) : FnOk P w K mg base CX0 2 f fd ["_law_theory_here", "_law_name", "_law_values"] (spFirst K) := by
  refine F.ok sc__law_first (fun vs H Q E h => ?_) (fun cdv A outer s H vs Q E hr h => ?_)
  · unfold spFirst at h
    obtain ⟨T, na, ca, d, xs, ns, cs, l, z, rfl, _⟩ := h
    rfl
  · unfold spFirst at h
    obtain ⟨T, na, ca, d, xs, ns, cs, l, z, rfl, th, hd, hcl, z0, zl, kn, q⟩ := h
    have hu := hu_of hr
    refine ⟨_, (pss_cons (ps_set (i := 3) sc__law_first.nd rfl (Or.inl rfl) (pe_lst pa_nil))
    (pss_cons (ps_set (i := 4) sc__law_first.nd rfl (Or.inl rfl) (pe_lst pa_nil))
    (pss_cons (ps_for PassesOwn.never rfl (pi_tup (pe_ix ix_tup (pv 0) pe_int (fun _ _ => rfl))) (pg_name (i := 5) sc__law_first.nd rfl (Or.inl rfl))
      (pss_one (ps_if (pt_cmpR op_eq (pe_ix ix_tup (pv 5) pe_int (fun _ _ => rfl)) (pv 1) (nomark _))
      (pss_one (ps_expr (pe_bm PySem.F.plainAttrs_list PySem.F.slot_list_append PySem.F.type_list_append mt_append (pv 4) (pa_cons (pe_op op_add (pe_cal C__law_value (hr.mono (by decide)) (pa_cons (pv 2) (pa_cons (pe_ix ix_tup (pv 5) pe_int (fun _ _ => rfl)) pa_nil))) (pe_ix ix_tup (pv 5) pe_int (fun _ _ => rfl))) pa_nil))))
      (pss_one (ps_if (pt_cmpR op_eq (pe_ix ix_tup (pv 5) pe_int (fun _ _ => rfl)) (pv 1) (nomark _))
      (pss_one (ps_expr (pe_bm PySem.F.plainAttrs_list PySem.F.slot_list_append PySem.F.type_list_append mt_append (pv 3) (pa_cons (pe_op op_sub (pe_cal C__law_value (hr.mono (by decide)) (pa_cons (pv 2) (pa_cons (pe_ix ix_tup (pv 5) pe_int (fun _ _ => rfl)) pa_nil))) (pe_ix ix_tup (pv 5) pe_int (fun _ _ => rfl))) pa_nil))))
      (pss_one (ps_if (pt_cmpR op_gt (pe_op op_sub (pe_cal C__law_value (hr.mono (by decide)) (pa_cons (pv 2) (pa_cons (pe_ix ix_tup (pv 5) pe_int (fun _ _ => rfl)) pa_nil))) (pe_cal C__law_value (hr.mono (by decide)) (pa_cons (pv 2) (pa_cons (pe_ix ix_tup (pv 5) pe_int (fun _ _ => rfl)) pa_nil)))) (pe_ix ix_tup (pv 5) pe_int (fun _ _ => rfl)) (nomark _))
      (pss_one (ps_ret pe_non))
      pss_nil)))))))
    (pss_cons (ps_if (pt_cmpR op_gt (pe_callB call_len_seq (by rfl) m_len PySem.boot_len (pa_cons (pv 3) pa_nil)) pe_int (nomark _))
      (pss_one (ps_set (i := 7) sc__law_first.nd rfl (Or.inl rfl) (pe_callB (id := "max") (cr_max rfl) (by rfl) m_max (by decide +kernel) (pa_cons (pv 3) pa_nil))))
      (pss_one (ps_if (pt_cmpR op_gt (pe_callB call_len_seq (by rfl) m_len PySem.boot_len (pa_cons (pv 4) pa_nil)) pe_int (nomark _))
      (pss_one (ps_set (i := 7) sc__law_first.nd rfl (Or.inl rfl) (pe_callB (id := "min") (cr_min rfl) (by rfl) m_min (by decide +kernel) (pa_cons (pv 4) pa_nil))))
      (pss_one (ps_set (i := 7) sc__law_first.nd rfl (Or.inl rfl) pe_int)))))
    (pss_cons (ps_for PassesOwn.never rfl (pi_list (pv 4)) (pg_name (i := 6) sc__law_first.nd rfl (Or.inl rfl))
      (pss_one (ps_if (pt_cmpR op_gt (pv 7) (pv 6) (nomark _))
      (pss_one (ps_ret pe_non))
      pss_nil)))
    (pss_one (ps_ret (pv 7)))))))), ?_⟩
    walk_at "rd"
    refine ⟨sz (by show 0 ≤ 100000; decide), fun L3 n3 => ?_⟩
    have s3 := same_new n3 (o := .lst [])
    have h3 : (upd H L3 (.lst [])) L3 = some (.lst ((lows l z (cs.take 0)).map V.int)) := upd_same
    generalize upd H L3 (.lst []) = H1 at s3 h3 ⊢
    walk_at "rd"
    refine ⟨sz (by show 0 ≤ 100000; decide), fun L4 n4 => ?_⟩
    have s4 := Same.trans s3 (same_new n4 (o := .lst []))
    have h4 : (upd H1 L4 (.lst [])) L4 = some (.lst ((highs l z (cs.take 0)).map V.int)) := upd_same
    have h3' := same_new n4 (o := .lst []) _ _ h3
    have n34 : L3 ≠ L4 := fun e => by rw [← e, h3] at n4; cases n4
    have n4' : H L4 = none := s3.free n4
    generalize upd H1 L4 (.lst []) = H2 at s4 h4 h3' ⊢
    clear h3 n4
    walk_at "rd"
    refine ⟨_, _, _, _, rfl, rfl, Bx.Same.tup s4 th.t, atI_nat (j := 1) rfl, ?_⟩
    have xl : xs.length = cs.length := by rw [da_len th.d, List.length_map]
    refine ⟨ca, rfl, ⟨_, Bx.Same.tup s4 th.c⟩, ?_⟩
    refine for_it walk_tup (fun i σ H' => ∃ o5 : Option V, σ = [some (.ref T), some (.str z), some (.ref d), some (.ref L3), some (.ref L4), o5, none, none] ∧ Same H H' ∧ H' L3 = some (.lst ((lows l z (cs.take i)).map V.int)) ∧ H' L4 = some (.lst ((highs l z (cs.take i)).map V.int)) ∧ oth l z (cs.take i))
      ⟨none, rfl, s4, h3', h4, fun c hc => nomatch hc⟩ (fun i σ H' _ h => by obtain ⟨_, _, s, _⟩ := h; exact Bx.Same.tup s th.c) ?_ ?_
    · rintro i v σ H5 H5' hi ⟨o5, rfl, s5, g3, g4, ho⟩ ⟨rfl, hx⟩
      obtain ⟨c, hc, dc⟩ := da_at th.d hx
      obtain ⟨p, rfl, hp⟩ := ctr_dp dc
      obtain ⟨x, y, k⟩ := c
      have hcm := List.mem_of_getElem? hc
      obtain ⟨k1, k2, k3⟩ := kn _ hcm
      have hp5 := Bx.Same.tup s5 hp
      have hd5 := s5 _ _ hd
      have lt1 : ((lows l z (cs.take i)).map V.int).length < sizeLine := by
        unfold lows
        rw [List.length_map, List.length_map]
        exact szl (Nat.lt_of_le_of_lt (Nat.le_trans (List.length_filter_le _ _) (List.length_take_le' i cs)) (by omega))
      have lt2 : ((highs l z (cs.take i)).map V.int).length < sizeLine := by
        unfold highs
        rw [List.length_map, List.length_map]
        exact szl (Nat.lt_of_le_of_lt (Nat.le_trans (List.length_filter_le _ _) (List.length_take_le' i cs)) (by omega))
      have othS : (x ≠ z → y ≠ z → hold l (x, y, k) = true) → oth l z (cs.take (i + 1)) := fun g c' hc' => by
        rw [List.take_add_one, hc] at hc'
        rcases List.mem_append.mp hc' with h | h
        · exact ho c' h
        · rw [List.mem_singleton.mp h]
          exact g
      have loS : lows l z (cs.take (i + 1)) = lows l z (cs.take i) ++ (if decide (y = z) = true then [vl l x - k] else []) := filter_take hc
      have hiS : highs l z (cs.take (i + 1)) = highs l z (cs.take i) ++ (if decide (x = z) = true then [vl l y + k] else []) := filter_take hc
      walk_at "rd"
      refine ⟨_, _, _, _, rfl, rfl, hp5, atI_nat (j := 0) rfl, ?_⟩
      walk_at "rd"
      rw [dec_str]
      refine ite2 (fun h6 => ?_) (fun h6 => ?_)
      · have e1 : x = z := of_decide_eq_true h6
        have e2 : y ≠ z := fun e2 => z0 (by rw [← e1]; exact k3 (by show x = y; rw [e1, e2]))
        rw [if_neg (by simpa using e2), List.append_nil] at loS
        rw [if_pos h6] at hiS
        walk_at "rd"
        refine ⟨.inl ⟨rfl, _, sq g4⟩, ?_⟩
        walk_at "rd"
        refine ⟨_, _, _, _, rfl, rfl, hp5, atI_nat (j := 1) rfl, ?_⟩
        refine value2_of hd5 (k2.resolve_left e2) ?_
        walk_at "rd"
        refine ⟨_, _, _, _, rfl, rfl, hp5, atI_nat (j := 2) rfl, ?_⟩
        walk_at "rd"
        refine ⟨L4, _, _, rfl, rfl, g4, lt2, ?_⟩
        refine ⟨_, rfl, fun b o hb => ?_, ?_, ?_, othS fun n => absurd e1 n⟩
        · rw [upd_ne (ne_of_none hb n4')]
          exact s5 _ _ hb
        · rw [upd_ne n34, loS]
          exact g3
        · rw [upd_same, hiS, List.map_append]
          rfl
      · have e1 : x ≠ z := fun e => h6 (decide_eq_true e)
        rw [if_neg h6, List.append_nil] at hiS
        walk_at "rd"
        refine ⟨_, _, _, _, rfl, rfl, hp5, atI_nat (j := 1) rfl, ?_⟩
        walk_at "rd"
        rw [dec_str]
        refine ite2 (fun h7 => ?_) (fun h7 => ?_)
        · rw [if_pos h7] at loS
          walk_at "rd"
          refine ⟨.inl ⟨rfl, _, sq g3⟩, ?_⟩
          walk_at "rd"
          refine ⟨_, _, _, _, rfl, rfl, hp5, atI_nat (j := 0) rfl, ?_⟩
          refine value2_of hd5 (k1.resolve_left e1) ?_
          walk_at "rd"
          refine ⟨_, _, _, _, rfl, rfl, hp5, atI_nat (j := 2) rfl, ?_⟩
          walk_at "rd"
          refine ⟨L3, _, _, rfl, rfl, g3, lt1, ?_⟩
          refine ⟨_, rfl, fun b o hb => ?_, ?_, ?_, othS fun _ n => absurd (of_decide_eq_true h7) n⟩
          · rw [upd_ne (ne_of_none hb n3)]
            exact s5 _ _ hb
          · rw [upd_same, loS, List.map_append]
            rfl
          · rw [upd_ne (Ne.symm n34), hiS]
            exact g4
        · have e2 : y ≠ z := fun e => h7 (decide_eq_true e)
          rw [if_neg h7, List.append_nil] at loS
          walk_at "rd"
          refine ⟨_, _, _, _, rfl, rfl, hp5, atI_nat (j := 0) rfl, ?_⟩
          refine value2_of hd5 (k1.resolve_left e1) ?_
          walk_at "rd"
          refine ⟨_, _, _, _, rfl, rfl, hp5, atI_nat (j := 1) rfl, ?_⟩
          refine value2_of hd5 (k2.resolve_left e2) ?_
          walk_at "rd"
          refine ⟨_, _, _, _, rfl, rfl, hp5, atI_nat (j := 2) rfl, ?_⟩
          walk_at "rd"
          refine ite2 (fun h8 => ?_) (fun h8 => ?_)
          · walk_at "rd"
            have z8 := q H5' s5
            rw [fit_no hcm (by rw [hold_no e1 e2]; unfold hold; exact decide_eq_false (by have h9 : k < vl l x - vl l y := of_decide_eq_true h8; show ¬ (vl l x - vl l y ≤ k); omega))] at z8
            exact z8
          · refine ⟨_, rfl, s5, by rw [loS]; exact g3, by rw [hiS]; exact g4, othS fun _ _ => ?_⟩
            unfold hold
            exact decide_eq_true (by have : ¬ (vl l x - vl l y > k) := fun e => h8 (decide_eq_true e); show vl l x - vl l y ≤ k; omega)
    · rintro σ H5 ⟨o5, rfl, s5, g3, g4, ho⟩
      rw [xl, List.take_length] at g3 g4 ho
      dsimp only
      refine st_gi (i := 7) (fun v H' => v = .int (pick (lows l z cs) (highs l z cs)) ∧ H' = H5) (fun D' hD => ?_) (fun v H6 => ?_)
      · walk_at "rd"
        refine ⟨_, _, rfl, .inl (sq g3), ?_⟩
        walk_at "rd"
        refine ite2 (fun h6 => ?_) (fun h6 => ?_)
        · have h7 : (0 : Int) < (((lows l z cs).map V.int).length : Nat) := of_decide_eq_true h6
          have ne : lows l z cs ≠ [] := by
            intro e
            rw [e] at h7
            exact absurd h7 (by decide)
          walk_at "rd"
          refine ⟨L3, _, rfl, sq g3, List.length_pos_iff.mpr ne, fun m hm hle => ?_⟩
          rw [mx_one hm hle]
          exact hD _ _ ⟨by unfold pick; rw [if_neg ne], rfl⟩
        · have e0 : lows l z cs = [] := by
            have h7 : ¬ (0 : Int) < (((lows l z cs).map V.int).length : Nat) := fun e => h6 (decide_eq_true e)
            rw [List.length_map] at h7
            exact List.length_eq_zero_iff.mp (by omega)
          walk_at "rd"
          refine ⟨_, _, rfl, .inl (sq g4), ?_⟩
          walk_at "rd"
          refine ite2 (fun h8 => ?_) (fun h8 => ?_)
          · have h7 : (0 : Int) < (((highs l z cs).map V.int).length : Nat) := of_decide_eq_true h8
            have ne : highs l z cs ≠ [] := by
              intro e
              rw [e] at h7
              exact absurd h7 (by decide)
            walk_at "rd"
            refine ⟨L4, _, rfl, sq g4, List.length_pos_iff.mpr ne, fun m hm hle => ?_⟩
            rw [mn_one hm hle]
            exact hD _ _ ⟨by unfold pick; rw [if_pos e0, if_neg ne], rfl⟩
          · have e1 : highs l z cs = [] := by
              have h7 : ¬ (0 : Int) < (((highs l z cs).map V.int).length : Nat) := fun e => h8 (decide_eq_true e)
              rw [List.length_map] at h7
              exact List.length_eq_zero_iff.mp (by omega)
            walk_at "rd"
            exact hD _ _ ⟨by unfold pick; rw [if_pos e0, if_pos e1], rfl⟩
      rintro ⟨rfl, rfl⟩
      walk_at "rd"
      refine ⟨⟨_, sq g4⟩, ?_⟩
      have eh : ∀ {i : Nat} {v : V}, ((highs l z cs).map V.int)[i]? = some v → ∃ y, (highs l z cs)[i]? = some y ∧ v = .int y := fun {i v} e => by
        rw [List.getElem?_map] at e
        cases c : (highs l z cs)[i]? with
        | none => rw [c] at e; cases e
        | some y => rw [c] at e; exact ⟨y, rfl, (Option.some.inj e).symm⟩
      refine for_it walk_list (fun i σ H' => ∃ o6 : Option V, σ = [some (.ref T), some (.str z), some (.ref d), some (.ref L3), some (.ref L4), o5, o6, some (.int (pick (lows l z cs) (highs l z cs)))] ∧ H' = H6 ∧ ∀ y ∈ (highs l z cs).take i, pick (lows l z cs) (highs l z cs) ≤ y)
        ⟨none, rfl, rfl, fun y hy => nomatch hy⟩ (fun i σ H' _ h => by obtain ⟨_, _, rfl, _⟩ := h; exact sq g4) ?_ ?_
      · rintro i v σ H7 H7' hi ⟨o6, rfl, rfl, hall⟩ ⟨rfl, hx⟩
        obtain ⟨y, hy, rfl⟩ := eh hx
        walk_at "rd"
        refine ite2 (fun h8 => ?_) (fun h8 => ?_)
        · have h9 : y < pick (lows l z cs) (highs l z cs) := of_decide_eq_true h8
          walk_at "rd"
          have z8 := q _ s5
          rw [fit_high z0 zl kn (List.mem_of_getElem? hy) h9] at z8
          exact z8
        · have h9 : ¬ y < pick (lows l z cs) (highs l z cs) := fun e => h8 (decide_eq_true e)
          refine ⟨_, rfl, rfl, fun y' hy' => ?_⟩
          rw [List.take_add_one, hy] at hy'
          rcases List.mem_append.mp hy' with h | h
          · exact hall y' h
          · rw [List.mem_singleton.mp h]
            omega
      · rintro σ H7 ⟨o6, rfl, rfl, hall⟩
        rw [List.length_map, List.take_length] at hall
        walk_at "rd"
        have z8 := q _ s5
        rw [fit_yes z0 zl kn ho hall] at z8
        exact z8
/-- isinstance of a caught error that has no dict -/
def rIsN (K : PySem.W.Frag) (a : Addr) (cls : Value) (d : Option Addr) : List V → Hp → VK → Prop := fun xs H Q => ∃ D, cls = .ref D ∧ d = none ∧ ExcC K D ∧ rIsE K D a xs H Q
theorem call_isN {X : Cx} {a : Addr} {cls : Value} {d : Option Addr} {oe : Obj} {pn : List (Addr × Obj)} (hz : Zc cls d oe) (hf : ∃ vs, oe.data = .fields vs) : CallR (X.suite a ((a, oe) :: pn)) (.builtin "isinstance") (rIsN X.K a cls d) := by
  intro pins s σ H xs us Q I r h
  obtain ⟨D, rfl, rfl, C, h⟩ := h
  exact call_isE C hz hf pins s σ H xs us Q I r h
/-- the error's class, as a handler sees it -/
structure ErS (K : PySem.W.Frag) (mg : Str → Option Value) (CF SE : Addr) : Prop where
  te : PySem.W.exmOne K (.ref CF) (.ref CF) = some true
  ec : ExcC K CF
  isS : PySem.W.kitOne K (.ref CF) (.ref SE) = some true
  gS : mg "ShadowError" = some (.ref SE)
@[irreducible] def spSame : Sp := fun vs H Q _ => ∃ a b : Addr, vs = [.ref a, .ref b] ∧ H a = some (.dK []) ∧ H b = some (.dK []) ∧ ∀ H', Same H H' → Q (.bl true) H'
theorem ok_same {f : Addr} {fd : FuncData} (F : Fun K "_law_same" "_law_same" s__law_same f fd) (m_isinstance : mg "isinstance" = none) (m_dict : mg "dict" = none) (m_int : mg "int" = none) (m_bool : mg "bool" = none) (m_sorted : mg "sorted" = none) : FnOk P w K mg base CX0 1 f fd ["_law_actual", "_law_expected"] spSame := by
  refine F.ok sc__law_same (fun vs H Q E h => ?_) (fun cdv A outer s H vs Q E hr h => ?_)
  · unfold spSame at h
    obtain ⟨a, b, rfl, _⟩ := h
    rfl
  · unfold spSame at h
    obtain ⟨a, b, rfl, ha, hb, q⟩ := h
    have hu := hu_of hr
    refine ⟨_, (pss_cons (ps_if (PW.pt (pw_or (pt_not (pt_val (pe_callB (id := "isinstance") call_isi (by rfl) m_isinstance (by decide +kernel) (pa_cons (pv 0) (pa_cons (pe_bltn (v := .ty "dict") (by rfl) m_dict (by decide +kernel) rfl) pa_nil))))) (pw_or1 (pt_cmpR (op_neD hr.units) (pe_callB (id := "sorted") (call_sortedD rfl) (by rfl) m_sorted (by decide +kernel) (pa_cons (pv 0) pa_nil)) (pe_callB (id := "sorted") (call_sortedD rfl) (by rfl) m_sorted (by decide +kernel) (pa_cons (pv 1) pa_nil)) (nomark _)))))
      (pss_one (ps_ret pe_bl))
      pss_nil)
    (pss_cons (ps_lock (ps_for PassesOwn.never rfl (pi_keys (pv 1)) (pg_name (i := 2) sc__law_same.nd rfl (Or.inl rfl))
      (pss_one (ps_if (PW.pt (pw_or (pt_not (pt_val (pe_callB (id := "isinstance") call_isi (by rfl) m_isinstance (by decide +kernel) (pa_cons (pe_dget hu (pv 0) (pv 2) (fun _ _ => rfl)) (pa_cons (pe_bltn (v := .ty "int") (by rfl) m_int (by decide +kernel) rfl) pa_nil))))) (pw_or (pt_val (pe_callB (id := "isinstance") call_isi (by rfl) m_isinstance (by decide +kernel) (pa_cons (pe_dget hu (pv 0) (pv 2) (fun _ _ => rfl)) (pa_cons (pe_bltn (v := .ty "bool") (by rfl) m_bool (by decide +kernel) rfl) pa_nil)))) (pw_or1 (pt_cmpR op_ne (pe_dget hu (pv 0) (pv 2) (fun _ _ => rfl)) (pe_dget hu (pv 1) (pv 2) (fun _ _ => rfl)) (nomark _))))))
      (pss_one (ps_ret pe_bl))
      pss_nil))))
    (pss_one (ps_ret pe_bl)))), ?_⟩
    walk_at "rd"
    refine ⟨_, _, _, _, true, rfl, .ty "dict", .base (.dK ha), kit_ty (by decide +kernel), ?_⟩
    walk_at "rd"
    refine ⟨a, [], [], rfl, .inl ha, rfl, by decide, fun ys p pm st np => ?_⟩
    obtain rfl := List.Perm.eq_nil pm
    have s1 := same_new np (o := .lst (List.map V.str []))
    walk_at "rd"
    refine ⟨b, [], [], rfl, .inl (s1 _ _ hb), rfl, by decide, fun ys p2 pm2 st2 np2 => ?_⟩
    obtain rfl := List.Perm.eq_nil pm2
    have s2 := same_new np2 (o := .lst (List.map V.str []))
    have s12 := Same.trans s1 s2
    have h1 := s2 _ _ (upd_same (H := H) (a := p) (o := .lst []))
    have h2 := upd_same (H := upd H p (.lst [])) (a := p2) (o := .lst [])
    show rNeD K _ _ _ _
    refine ⟨.list [], .list [], .lst (sq h1) .nil, .lst (sq h2) .nil, by decide +kernel, by decide +kernel, ?_⟩
    generalize upd (upd H p (.lst (List.map V.str []))) p2 (.lst (List.map V.str [])) = H2 at s12 ⊢
    rw [show (!PyData.eqv (.list []) (.list [])) = false from rfl]
    walk_at "rd"
    refine ite2 (fun h => absurd h (by decide)) (fun _ => ?_)
    walk_at "rd"
    refine ⟨b, .dK [], s12 _ _ hb, trivial, fun od => ?_⟩
    walk_at "rd"
    refine ⟨b, od, rfl, .inl ⟨[], upd_same, ?_⟩⟩
    refine for_it walk_keys (fun i σ H' => σ = [some (.ref a), some (.ref b), none] ∧ H' = upd H2 b (.frz od (.dK []))) ⟨rfl, rfl⟩ (fun i σ H' _ h => by rw [h.2]; exact upd_same) ?_ ?_
    · rintro i v σ H5 H5' hi _ _
      exact absurd hi (Nat.not_lt_zero _)
    · rintro σ H5 ⟨rfl, rfl⟩
      walk_at "rd"
      refine ⟨upd_same, ?_⟩
      walk_at "rd"
      have e : upd (upd H2 b (.frz od (.dK []))) b (.dK []) = H2 := by
        rw [upd_upd]
        funext c
        by_cases hc : c = b
        · rw [hc, upd_same]
          exact (s12 _ _ hb).symm
        · rw [upd_ne hc]
      rw [e]
      exact q _ s12
/-- what lift answers -/
@[irreducible] def spLifted (K : PySem.W.Frag) : Sp := fun vs H Q _ => ∃ (T na ca d : Addr) (xs : List V) (ns : List Str) (cs : List Ctr) (l : As) (z : Str), vs = [.ref T, .str z, .ref d, nonOf (fit l z cs)] ∧ Th K H T na ca xs ns cs ∧ H d = some (.dK (asV l)) ∧ cs.length ≤ 1000 ∧ l.length ≤ 1000 ∧
  z ≠ emp ∧ z.length ≤ 100 ∧ z ∉ l.map (·.1) ∧ KnZ l z cs ∧ ∀ H', Same H H' → Q (.bl true) H'
theorem ok_lifted {C CF SE : Addr} (er : ErN K mg CF) (es : ErS K mg CF SE) {f : Addr} {fd : FuncData} (F : Fun K "_law_lifted" "_law_lifted" s__law_lifted f fd) (m_isinstance : mg "isinstance" = none) (m_int : mg "int" = none) (m_bool : mg "bool" = none) (B_Steps : Mk0.Bare K mg "Steps" C) (M_lift : MthX P w K mg base C "lift" 4 ["self", "theory", "name", "assignment"] (spLift K C CF)) : FnOk P w K mg base CX0 6 f fd ["_law_theory_here", "_law_name", "_law_values", "_law_expected"] (spLifted K) := by
  refine F.ok sc__law_lifted (fun vs H Q E h => ?_) (fun cdv A outer s H vs Q E hr h => ?_)
  · unfold spLifted at h
    obtain ⟨T, na, ca, d, xs, ns, cs, l, z, rfl, _⟩ := h
    rfl
  · unfold spLifted at h
    obtain ⟨T, na, ca, d, xs, ns, cs, l, z, rfl, th, hd, hcl, hll, z0, zl100, zl, kn, q⟩ := h
    refine ⟨_, (pss_cons (ps_try_as (i := 4) rfl rfl sc__law_lifted.nd rfl rfl ⟨rfl, by decide, .inl er.gF⟩ takes0 (fun W pn xe tk po =>
      (pss_one (ps_set (i := 5) sc__law_lifted.nd rfl (Or.inl rfl) (pe_mthX M_lift tk (hr.mono (by decide)) (Mk0.pe_bare B_Steps) (pa_cons (pv 0) (pa_cons (pv 1) (pa_cons (pv 2) pa_nil)))))))
      (fun a oe cls d pn hz hf =>
      (pss_one (ps_ret (pe_and (pe_cmpR op_isN (pv 3) pe_non (nomark _)) (pe_one (pe_callB (id := "isinstance") (call_isN hz hf) (by rfl) m_isinstance (by decide +kernel) (pa_cons (pv 4) (pa_cons (pe_glob (v := .ref SE) rfl es.gS rfl) pa_nil)))))))))
    (pss_cons (ps_if (PW.pt (pw_or (pt_cmpR op_isN (pv 3) pe_non (nomark _)) (pw_or (pt_not (pt_val (pe_callB (id := "isinstance") call_isi (by rfl) m_isinstance (by decide +kernel) (pa_cons (pv 5) (pa_cons (pe_bltn (v := .ty "int") (by rfl) m_int (by decide +kernel) rfl) pa_nil))))) (pw_or1 (pt_val (pe_callB (id := "isinstance") call_isi (by rfl) m_isinstance (by decide +kernel) (pa_cons (pv 5) (pa_cons (pe_bltn (v := .ty "bool") (by rfl) m_bool (by decide +kernel) rfl) pa_nil))))))))
      (pss_one (ps_ret pe_bl))
      pss_nil)
    (pss_one (ps_ret (pe_cmpR op_eq (pv 5) (pv 3) (nomark _)))))), ?_⟩
    walk_at "rd"
    refine fun k dk nk nd ne => ?_
    obtain ⟨u2, hk⟩ := bare_new (C := C) nk nd ne
    generalize upd (upd H dk (.own k)) k (.ins C dk []) = H9 at u2 hk ⊢
    refine ⟨k, dk, [], rfl, hk, rfl, ?_⟩
    walk_at "rd"
    show spLift K C CF _ _ _ _
    unfold spLift
    refine ⟨k, dk, T, na, ca, d, [], xs, ns, cs, l, z, rfl, hk, rfl, th.same u2, u2 _ _ hd, hcl, hll, z0, zl100, zl, kn, fun v ev H1 s1 => ?_, fun ev H1 s1 => ?_⟩
    · rw [ev]
      have s01 := Same.trans u2 s1
      walk_at "rd"
      refine ⟨_, _, _, _, true, rfl, .ty "int", .base (.int v), kit_ty (by decide +kernel), ?_⟩
      walk_at "rd"
      refine ⟨_, _, _, _, false, rfl, .ty "bool", .base (.int v), kit_ty (by decide +kernel), ?_⟩
      walk_at "rd"
      show Q (.bl (decide (V.int v = V.int v))) H1
      rw [decide_eq_true rfl]
      exact q _ s01
    · rw [ev]
      have s01 := Same.trans u2 s1
      refine ⟨true, es.te, fun _ a na => ?_, fun h => nomatch h⟩
      walk_at "rd"
      refine ⟨es.ec, _, _, true, rfl, (fun u r => r), es.isS, ?_⟩
      exact q _ s01
end
end K14
namespace K14
local macro_rules | `(tactic| walk_at "rd") => `(tactic| repeat (first | refine ⟨rfl, ?_⟩ | refine ⟨_, rfl, ?_⟩ | refine ⟨_, _, rfl, rfl, ?_⟩ | refine ⟨⟨_, rfl⟩, ?_⟩))
open PySem PySem.Spec PyProof.Rows L2 Bx TL Dx Zx Ow Sup NdefX Px
def e3 (b : Int) : Ctr := (emp, emp, b)
theorem hold_e3 (b : Int) : hold [] (e3 b) = decide (0 ≤ b) := rfl
theorem all_e3 (bs : List Int) : (bs.map e3).all (hold []) = bs.all fun b => decide (0 ≤ b) := by
  rw [List.all_map]
  rfl
theorem neg_e3 (bs : List Int) : (bs.filter fun b => decide (b < 0)) = [] ↔ bs.all (fun b => decide (0 ≤ b)) = true := by
  rw [List.filter_eq_nil_iff, List.all_eq_true]
  refine ⟨fun h b hb => decide_eq_true (by have := h b hb; simp at this; omega), fun h b hb => ?_⟩
  have := of_decide_eq_true (h b hb)
  simp
  omega
section
variable {P : Program} {w : World} {K : PySem.W.Frag} {mg : Str → Option Value} {base : Heap}
@[irreducible] def spRt (K : PySem.W.Frag) : Sp := fun vs H Q _ => ∃ s : Addr, vs = [.ref s] ∧ Src H s ∧ ∀ H', SameBut s H H' → Src H' s → Q (.bl true) H'
theorem int_map {xs : List Int} {i : Nat} {v : V} (e : (xs.map V.int)[i]? = some v) : ∃ y, xs[i]? = some y ∧ v = .int y := by
  rw [List.getElem?_map] at e
  cases c : xs[i]? with
  | none => rw [c] at e; cases e
  | some y => rw [c] at e; exact ⟨y, rfl, (Option.some.inj e).symm⟩
set_option maxHeartbeats 2000000 in
theorem ok_ground_right {C : Addr} {f : Addr} {fd : FuncData} (F : Fun K "_law_ground_right" "_law_ground_right" s__law_ground_right f fd) (m_range : mg "range" = none) (m_len : mg "len" = none) (m_tuple : mg "tuple" = none) (B_Steps : Mk0.Bare K mg "Steps" C) (C__law_draw : CDraw P w K mg base) (M_ground : MthC P w K mg base C "ground" 4 ["self", "theory"] (spGround K C)) (C__law_same : Cal P w K mg base "_law_same" 1 ["_law_actual", "_law_expected"] spSame) : FnOk P w K mg base CX0 5 f fd ["_law_source_here"] (spRt K) := by
  refine F.ok sc__law_ground_right (fun vs H Q E h => ?_) (fun cdv A outer s H vs Q E hr h => ?_)
  · unfold spRt at h
    obtain ⟨s, rfl, _⟩ := h
    rfl
  · unfold spRt at h
    obtain ⟨src, rfl, hA, q⟩ := h
    refine ⟨_, (pss_cons (ps_setLc (i := 1) (own := [("_law_k", 3)]) (tt := tYes) rfl sc__law_ground_right.nd rfl rfl (sw_true rfl rfl rfl (by decide +kernel)) (pi_range1 (by rfl) m_range (pa_cons (pe_cal C__law_draw (hr.mono (by decide)) (pa_cons (pv 0) (pa_cons pe_int pa_nil))) pa_nil)) (blkOk_by (N := n__law_ground_right) (sc := defScope s__law_ground_right) (by decide +kernel)) (fun _ _ _ _ _ => pg_name (i := 3) sc__law_ground_right.nd rfl (Or.inl rfl)) (fun _ _ _ _ _ => pts_nil) (fun _ _ _ _ _ => (pe_op op_sub (pe_cal C__law_draw (hr.mono (by decide)) (pa_cons (pv 0) (pa_cons pe_int pa_nil))) pe_int)))
    (pss_cons (ps_if (pt_cmpR op_eq (pe_cal C__law_draw (hr.mono (by decide)) (pa_cons (pv 0) (pa_cons pe_int pa_nil))) pe_int (nomark _))
      (pss_one (ps_setLc (i := 1) (own := [("_law_bound_here", 4)]) (tt := tYes) rfl sc__law_ground_right.nd rfl rfl (sw_true rfl rfl rfl (by decide +kernel)) (pi_list (pv 1)) (blkOk_by (N := n__law_ground_right) (sc := defScope s__law_ground_right) (by decide +kernel)) (fun _ _ _ _ _ => pg_name (i := 4) sc__law_ground_right.nd rfl (Or.inl rfl)) (fun _ _ _ _ _ => pts_nil) (fun _ _ _ _ _ => (pe_op op_add (pv 4) pe_int))))
      pss_nil)
    (pss_cons (ps_set (i := 2) sc__law_ground_right.nd rfl (Or.inl rfl) (pe_mth M_ground (hr.mono (by decide)) (Mk0.pe_bare B_Steps) (pa_cons (pe_tup (pa_cons (pe_tup pa_nil) (pa_cons (pe_callTy (T := "tuple") call_tuple_of (by rfl) m_tuple (by decide +kernel) (pa_cons (pe_lc (own := [("_law_bound_here", 4)]) (tt := tYes) rfl sc__law_ground_right.nd (pi_list (pv 1)) (blkOk_by (N := n__law_ground_right) (sc := defScope s__law_ground_right) (by decide +kernel)) (fun _ _ _ _ _ => pg_name (i := 4) sc__law_ground_right.nd rfl (Or.inl rfl)) (fun _ _ _ _ _ => pts_nil) (fun _ _ _ _ _ => (pe_tup (pa_cons pe_str (pa_cons pe_str (pa_cons (pv 4) pa_nil)))))) pa_nil)) pa_nil))) pa_nil) (ht := mcall_of (abase_call (by decide +kernel)) (fun _ => rfl))))
    (pss_cons (ps_if (pt_cmpR op_gt (pe_callB call_len_seq (by rfl) m_len PySem.boot_len (pa_cons (pe_lc (own := [("_law_bound_here", 4)]) rfl sc__law_ground_right.nd (pi_list (pv 1)) (blkOk_by (N := n__law_ground_right) (sc := defScope s__law_ground_right) (by decide +kernel)) (fun _ _ _ _ _ => pg_name (i := 4) sc__law_ground_right.nd rfl (Or.inl rfl)) (fun _ _ _ _ _ => pts_one (pt_cmpR op_lt (pv 4) pe_int (nomark _))) (fun _ _ _ _ _ => (pv 4))) pa_nil)) pe_int (nomark _))
      (pss_one (ps_ret (pe_cmpR op_isN (pv 2) pe_non (nomark _))))
      pss_nil)
    (pss_one (ps_ret (pe_cal C__law_same (hr.mono (by decide)) (pa_cons (pv 2) (pa_cons pe_dnewK pa_nil))))))))), ?_⟩
    walk_at "rd"
    refine draw_of hA ⟨by decide, by decide⟩ fun n H1 n0 n1 s1 hA1 => ?_
    obtain ⟨nn, rfl⟩ := Int.eq_ofNat_of_zero_le n0
    refine ⟨_, rfl, by omega, by omega, fun D hD => ?_⟩
    have nDs := src_ne hA1 hD
    refine lc_it walk_range (fun i H' => ∃ bs : List Int, H' D = some (.lst (bs.map V.int)) ∧ bs.length = i ∧ SameBut src H H' ∧ Src H' src) ⟨[], upd_same, rfl, s1.trans (Bx.Same.but (same_new hD)), src_upd hA1 nDs⟩ (fun _ _ _ _ => trivial) ?_ ?_
    · rintro i v H2 H3 hi ⟨bs, hb, hl, s2, hA2⟩ ⟨rfl, rfl⟩
      refine ⟨rfl, ?_⟩
      walk_at "rd"
      refine draw_of hA2 ⟨by decide, by decide⟩ fun r H4 r0 r1 s4 hA4 => ?_
      walk_at "rd"
      have hb4 := s4 _ _ nDs.symm hb
      refine ⟨_, hb4, szl (by rw [List.length_map]; omega), bs ++ [r - 1], by rw [upd_same, List.map_append]; rfl, by rw [List.length_append, hl]; rfl, ?_, src_upd hA4 nDs⟩
      exact but_at (but_free s1 nDs.symm hD) (s2.trans s4)
    rintro H2 ⟨bs, hb, hl, s2, hA2⟩
    have hl3 : bs.length ≤ 3 := by omega
    dsimp only [gName]
    refine st_gi (i := 1) (fun v H' => ∃ (D2 : Addr) (bs : List Int), v = .ref D2 ∧ D2 ≠ src ∧ H' D2 = some (.lst (bs.map V.int)) ∧ bs.length ≤ 3 ∧ SameBut src H H' ∧ Src H' src) (fun D' hD' => ?_) (fun v H4 => ?_)
    · walk_at "rd"
      refine draw_of hA2 ⟨by decide, by decide⟩ fun r H3 r0 r1 s3 hA3 => ?_
      have hb3 := s3 _ _ nDs.symm hb
      walk_at "rd"
      refine ite2 (fun h6 => ?_) (fun h6 => ?_)
      · walk_at "rd"
        refine ⟨⟨_, sq hb3⟩, fun D2 nD2 => ?_⟩
        have n2s := src_ne hA3 nD2
        have n12 : D ≠ D2 := fun e => by rw [← e, hb3] at nD2; cases nD2
        refine lc_it walk_list (fun i H' => H' = upd H3 D2 (.lst (((bs.take i).map fun b => b + 1).map V.int))) rfl (fun i H' _ e => by rw [e]; exact sq (by rw [upd_ne n12]; exact hb3)) ?_ ?_
        · rintro i v H4 H5 hi rfl ⟨rfl, hx⟩
          obtain ⟨b, hb', rfl⟩ := int_map hx
          refine ⟨rfl, ?_⟩
          walk_at "rd"
          refine ⟨_, upd_same, ?_, ?_⟩
          · rw [List.length_map, List.length_map]
            exact szl (Nat.lt_of_le_of_lt (List.length_take_le' i bs) (by omega))
          · rw [upd_upd, List.take_add_one, hb', List.map_append, List.map_append]
            rfl
        rintro H4 rfl
        rw [List.length_map, List.take_length]
        refine hD' _ _ ⟨D2, bs.map fun b => b + 1, rfl, n2s.symm, upd_same, by rw [List.length_map]; exact hl3, ?_, src_upd hA3 n2s⟩
        exact but_at (but_free (s2.trans s3) n2s.symm nD2) (s2.trans s3)
      · exact hD' _ _ ⟨D, bs, rfl, nDs.symm, hb3, hl3, s2.trans s3, hA3⟩
    rintro ⟨D2, bs2, rfl, n2s, hb2, hl2, s4, hA4⟩
    clear hb hl hl3 s2 hA2
    walk_at "rd"
    refine fun k dk nk nd ne => ?_
    obtain ⟨u1, hk⟩ := bare_new (C := C) nk nd ne
    generalize upd (upd H4 dk (.own k)) k (.ins C dk []) = H5 at u1 hk ⊢
    refine ⟨k, dk, [], rfl, hk, rfl, ?_⟩
    walk_at "rd"
    refine ⟨sz (by show 0 ≤ 100000; decide), fun T0 nT0 => ?_⟩
    have u2 := same_new nT0 (o := .tup [])
    have hT0 := upd_same (H := H5) (a := T0) (o := .tup [])
    generalize upd H5 T0 (.tup []) = H6 at u2 hT0 ⊢
    walk_at "rd"
    have u12 := Same.trans u1 u2
    refine ⟨⟨_, sq (u12 _ _ hb2)⟩, fun D3 nD3 => ?_⟩
    refine lc_it walk_list (fun i H' => ∃ us, H' D3 = some (.lst us) ∧ DpAll K H' us (((bs2.take i).map e3).map ctD) ∧ us.length = i ∧ Same H6 H') ⟨[], upd_same, .nil, rfl, same_new nD3⟩ (fun i H' _ ⟨_, _, _, _, s⟩ => sq (s _ _ (u12 _ _ hb2))) ?_ ?_
    · rintro i v H7 H8 hi ⟨us, hu1, hda, hul, s7⟩ ⟨rfl, hx⟩
      rw [List.length_map] at hi
      obtain ⟨b, hb', rfl⟩ := int_map hx
      refine ⟨rfl, ?_⟩
      walk_at "rd"
      refine ⟨sz (by show 3 ≤ 100000; decide), fun T2 nT2 => ?_⟩
      have sT := same_new nT2 (o := .tup [.str emp, .str emp, .int b])
      have eT : (upd H8 T2 (.tup [.str emp, .str emp, .int b])) T2 = some (.tup [.str emp, .str emp, .int b]) := upd_same
      have hu2 := sT _ _ hu1
      have tk := tk_lst (K := K) (o := .lst (us ++ [.ref T2])) hu2
      refine ⟨us, hu2, szl (by omega), us ++ [.ref T2], upd_same, ?_, by rw [List.length_append, hul]; rfl, ?_⟩
      · rw [List.take_add_one, hb', List.map_append, List.map_append]
        refine da_app (da_tk tk _ _ (tup_ctr _) (dpAll_same sT hda)) (da_one ?_)
        exact dp_tk tk _ _ rfl (dp_ctr (c := e3 b) (sqt eT))
      · intro c o hc
        rw [upd_ne (ne_of_none hc nD3)]
        exact sT _ _ (s7 _ _ hc)
    rintro H7 ⟨us, hu1, hda, hul, s7⟩
    rw [List.length_map] at hul hda
    rw [List.take_length] at hda
    walk_at "rd"
    refine ⟨D3, us, rfl, .inl ⟨sq hu1, fun ct nct => ?_⟩⟩
    have s8 := same_new nct (o := .tup us)
    have hct := upd_same (H := H7) (a := ct) (o := .tup us)
    generalize upd H7 ct (.tup us) = H8 at s8 hct ⊢
    walk_at "rd"
    refine ⟨sz (by show 2 ≤ 100000; decide), fun R nR => ?_⟩
    have s9 := same_new nR (o := .tup [.ref T0, .ref ct])
    have hR := upd_same (H := H8) (a := R) (o := .tup [.ref T0, .ref ct])
    generalize upd H8 R (.tup [.ref T0, .ref ct]) = H9 at s9 hR ⊢
    have s79 := Same.trans s7 (Same.trans s8 s9)
    have th : Th K H9 R T0 ct us [] (bs2.map e3) := ⟨sqt hR, sqt (s79 _ _ hT0), sqt (s9 _ _ hct), dpAll_same (Same.trans s8 s9) hda⟩
    have u9 : Same H4 H9 := Same.trans u12 s79
    walk_at "rd"
    show spGround K C _ _ _ _
    unfold spGround
    have hb9 := u9 _ _ hb2
    have ea : (bs2.map e3).all (hold []) = bs2.all fun b => decide (0 ≤ b) := all_e3 bs2
    have b9 : SameBut src H H9 := s4.trans (Bx.Same.but u9)
    have hA9 := src_same hA4 u9
    refine ⟨k, dk, R, T0, ct, [], us, [], bs2.map e3, rfl, Same.trans u2 s79 _ _ hk, rfl, th, by rw [List.length_map]; omega, (fun c hc => by obtain ⟨b, _, rfl⟩ := List.mem_map.mp hc; exact ⟨rfl, rfl⟩), fun hall r H10 s10 hr10 => ?_, fun hall H10 s10 => ?_⟩
    · rw [ea] at hall
      have e0 := (neg_e3 bs2).mpr hall
      walk_at "rd"
      have hb10 := s10 _ _ hb9
      refine ⟨⟨_, sq hb10⟩, fun D5 nD5 => ?_⟩
      have n25 : D2 ≠ D5 := fun e => by rw [← e, hb10] at nD5; cases nD5
      refine lc_it walk_list (fun i H' => H' = upd H10 D5 (.lst (((bs2.take i).filter fun b => decide (b < 0)).map V.int))) rfl (fun i H' _ e => by rw [e]; exact sq (by rw [upd_ne n25]; exact hb10)) ?_ ?_
      · rintro i v H11 H12 hi rfl ⟨rfl, hx⟩
        obtain ⟨b, hb', rfl⟩ := int_map hx
        refine ⟨rfl, ?_⟩
        walk_at "rd"
        refine ite2 (fun h6 => ?_) (fun h6 => ?_)
        · walk_at "rd"
          refine ⟨_, upd_same, ?_, ?_⟩
          · rw [List.length_map]
            exact szl (Nat.lt_of_le_of_lt (Nat.le_trans (List.length_filter_le _ _) (List.length_take_le' i bs2)) (by omega))
          · rw [upd_upd, List.take_add_one, hb', List.filter_append, show (some b).toList.filter (fun b => decide (b < 0)) = [b] by show [b].filter _ = _; rw [List.filter_cons, if_pos h6, List.filter_nil], List.map_append]
            rfl
        · rw [List.take_add_one, hb', List.filter_append, show (some b).toList.filter (fun b => decide (b < 0)) = [] by show [b].filter _ = _; rw [List.filter_cons, if_neg h6, List.filter_nil], List.append_nil]
      rintro H11 rfl
      rw [List.length_map, List.take_length]
      have s11 := same_new nD5 (o := .lst ((bs2.filter fun b => decide (b < 0)).map V.int))
      have h11 := upd_same (H := H10) (a := D5) (o := .lst ((bs2.filter fun b => decide (b < 0)).map V.int))
      generalize upd H10 D5 (.lst ((bs2.filter fun b => decide (b < 0)).map V.int)) = H11 at s11 h11 ⊢
      have b11 : SameBut src H H11 := b9.trans (Bx.Same.but (Same.trans s10 s11))
      have hA11 := src_same hA9 (Same.trans s10 s11)
      walk_at "rd"
      refine ⟨_, _, rfl, .inl (sq h11), ?_⟩
      walk_at "rd"
      rw [e0]
      refine ite2 (fun h6 => absurd h6 (by decide)) (fun _ => ?_)
      walk_at "rd"
      refine fun D6 nD6 => ?_
      have s12 := same_new nD6 (o := .dK [])
      show spSame _ _ _ _
      unfold spSame
      refine ⟨r, D6, rfl, s12 _ _ (s11 _ _ hr10), upd_same, fun H13 s13 => ?_⟩
      have s14 := Same.trans s12 s13
      exact q _ (b11.trans (Bx.Same.but s14)) (src_same hA11 s14)
    · rw [ea] at hall
      have ne0 : bs2.filter (fun b => decide (b < 0)) ≠ [] := fun e => by
        rw [(neg_e3 bs2).mp e] at hall
        cases hall
      have lpos := List.length_pos_iff.mpr ne0
      walk_at "rd"
      have hb10 := s10 _ _ hb9
      refine ⟨⟨_, sq hb10⟩, fun D5 nD5 => ?_⟩
      have n25 : D2 ≠ D5 := fun e => by rw [← e, hb10] at nD5; cases nD5
      refine lc_it walk_list (fun i H' => H' = upd H10 D5 (.lst (((bs2.take i).filter fun b => decide (b < 0)).map V.int))) rfl (fun i H' _ e => by rw [e]; exact sq (by rw [upd_ne n25]; exact hb10)) ?_ ?_
      · rintro i v H11 H12 hi rfl ⟨rfl, hx⟩
        obtain ⟨b, hb', rfl⟩ := int_map hx
        refine ⟨rfl, ?_⟩
        walk_at "rd"
        refine ite2 (fun h6 => ?_) (fun h6 => ?_)
        · walk_at "rd"
          refine ⟨_, upd_same, ?_, ?_⟩
          · rw [List.length_map]
            exact szl (Nat.lt_of_le_of_lt (Nat.le_trans (List.length_filter_le _ _) (List.length_take_le' i bs2)) (by omega))
          · rw [upd_upd, List.take_add_one, hb', List.filter_append, show (some b).toList.filter (fun b => decide (b < 0)) = [b] by show [b].filter _ = _; rw [List.filter_cons, if_pos h6, List.filter_nil], List.map_append]
            rfl
        · rw [List.take_add_one, hb', List.filter_append, show (some b).toList.filter (fun b => decide (b < 0)) = [] by show [b].filter _ = _; rw [List.filter_cons, if_neg h6, List.filter_nil], List.append_nil]
      rintro H11 rfl
      rw [List.length_map, List.take_length]
      have s11 := same_new nD5 (o := .lst ((bs2.filter fun b => decide (b < 0)).map V.int))
      have h11 := upd_same (H := H10) (a := D5) (o := .lst ((bs2.filter fun b => decide (b < 0)).map V.int))
      generalize upd H10 D5 (.lst ((bs2.filter fun b => decide (b < 0)).map V.int)) = H11 at s11 h11 ⊢
      have b11 : SameBut src H H11 := b9.trans (Bx.Same.but (Same.trans s10 s11))
      have hA11 := src_same hA9 (Same.trans s10 s11)
      walk_at "rd"
      refine ⟨_, _, rfl, .inl (sq h11), ?_⟩
      walk_at "rd"
      refine ite2 (fun h6 => ?_) (fun h6 => absurd (decide_eq_true (by rw [List.length_map]; omega)) h6)
      walk_at "rd"
      exact q _ b11 hA11
end
end K14
namespace K14
local macro_rules | `(tactic| walk_at "rd") => `(tactic| repeat (first | refine ⟨rfl, ?_⟩ | refine ⟨_, rfl, ?_⟩ | refine ⟨_, _, rfl, rfl, ?_⟩ | refine ⟨⟨_, rfl⟩, ?_⟩))
open PySem PySem.Spec PyProof.Rows L2 Bx TL Dx Zx Ow Sup NdefX Px
/-- names as the law's theories have them -/
structure Ok8 (ns : List Str) : Prop where
  asc : Asc ns
  nd : ns.Nodup
  ne : ∀ z ∈ ns, z ≠ emp
  ok : ∀ z ∈ ns, PyData.strOk z = true
  len : ns.length ≤ 8
  short : ∀ z ∈ ns, z.length ≤ 100
theorem asc_pool : Asc pool8 := by
  unfold Asc
  decide +kernel
theorem ok8_of {ns : List Str} (h : ns.Sublist pool8) : Ok8 ns where
  asc := asc_pool.sublist h
  nd := asc_nodup (asc_pool.sublist h)
  ne := fun z hz => (show ∀ z ∈ pool8, z ≠ emp by decide +kernel) z (h.subset hz)
  ok := fun z hz => (show ∀ z ∈ pool8, PyData.strOk z = true by decide +kernel) z (h.subset hz)
  len := h.length_le
  short := fun z hz => (show ∀ z ∈ pool8, z.length ≤ 100 by decide +kernel) z (h.subset hz)
theorem perm_asc {ys sh s : List Str} (pm : ys.Perm sh) (st : sortedS ys = true) (nd : sh.Nodup) (as : Asc s) (m : ∀ x, x ∈ s ↔ x ∈ sh) : ys = s :=
  asc_eq (asc_of st (pm.nodup_iff.mpr nd)) as fun x => pm.mem_iff.trans (m x).symm
theorem keys_as (l : As) : (asV l).map (·.1) = (l.map (·.1)).map Sum.inr := by
  unfold asV
  rw [List.map_map, List.map_map]
  rfl
theorem keys_tb (l : Tb) : (tbV l).map (·.1) = (l.map (·.1)).map Sum.inr := by
  unfold tbV
  rw [List.map_map, List.map_map]
  rfl
theorem has_tb : ∀ {l : Tb} {z : Str}, z ∈ l.map (·.1) → valV (tbV l) (.inr z) = some (.str (rn l z))
  | p :: r, z, h => by
    unfold rn
    by_cases e : p.1 = z
    · have e2 : ((.inr p.1 : Key), V.str p.2).1 = .inr z := congrArg Sum.inr e
      show valV (((.inr p.1 : Key), V.str p.2) :: tbV r) (.inr z) = _
      rw [valV_pos e2, List.find?_cons, decide_eq_true e]
      rfl
    · have e2 : ¬ ((.inr p.1 : Key), V.str p.2).1 = .inr z := fun h => e (Sum.inr.inj h)
      show valV (((.inr p.1 : Key), V.str p.2) :: tbV r) (.inr z) = _
      rw [valV_neg e2, List.find?_cons, decide_eq_false e]
      exact has_tb (by
        rw [List.map_cons] at h
        exact (List.mem_cons.mp h).resolve_left fun h => e h.symm)
/-- what [(k, d[k]) for k in sorted(d)] lists -/
def prs (f : Str → PyData) (ys : List Str) : List PyData := ys.map fun z => .tuple [.str z, f z]
theorem tup_prs {f : Str → PyData} (hf : ∀ z, tupD (f z) = true) : ∀ ys : List Str, tupAll (prs f ys) = true
  | [] => rfl
  | z :: r => by
    show (tupD (.tuple [.str z, f z]) && tupAll (prs f r)) = true
    rw [tup_prs hf r]
    show (true && (tupD (f z) && true) && true) = true
    rw [hf z]
    rfl
section
variable {P : Program} {w : World} {K : PySem.W.Frag} {mg : Str → Option Value} {base : Heap}
theorem pairs_lc {tw : TE} {σ : List (Option V)} {H : Hp} {i a : Nat} {d : Addr} {kvs : List (Key × V)} {ks : List Str} {g : Str → V} {f : Str → PyData} {Q : VK} (hi : i < σ.length) (ha : a ≠ i) (hs : σ[a]? = some (some (.ref d))) (hd : H d = some (.dK kvs)) (h64 : ks.length < 64)
    (hv : ∀ z ∈ ks, valV kvs (.inr z) = some (g z)) (hf : ∀ z H', Dp K H' (g z) (f z)) (ht : ∀ z, tupD (f z) = true)
    (hw : ∀ R : VK, (∀ p H1 ys, Same H H1 → H1 p = some (.lst (ys.map V.str)) → ys.Perm ks → sortedS ys = true → R (.ref p) H1) → tw σ H R)
    (q : ∀ D H' us ys, Same H H' → H' D = some (.lst us) → H D = none → DpAll K H' us (prs f ys) → ys.Perm ks → sortedS ys = true → Q (.ref D) H') :
    tLc (iList K tw) (gName i) tYes (tTup (tCons (tVar i) (tCons (tDGet (tVar a) (tVar i)) tNil))) [i] σ H Q := by
  refine hw _ fun p H1 ys s1 hp pm st => ⟨p, rfl, ⟨_, sq hp⟩, fun D hD => ?_⟩
  have yl : ys.length < 64 := by rw [pm.length_eq]; exact h64
  refine lc_it walk_list (fun j H' => ∃ us, H' D = some (.lst us) ∧ DpAll K H' us (prs f (ys.take j)) ∧ us.length = j ∧ Same H1 H') ⟨[], upd_same, .nil, rfl, same_new hD⟩ (fun j H' _ ⟨_, _, _, _, s⟩ => sq (s _ _ hp)) ?_ ?_
  · rintro j v H2 H3 hj ⟨us, hu, hda, hul, s2⟩ ⟨rfl, hx⟩
    rw [List.length_map] at hj
    obtain ⟨z, hz, rfl⟩ := at_map hx
    have hzk : z ∈ ks := pm.mem_iff.mp (List.mem_of_getElem? hz)
    have wl : (wipe σ [i]).length = σ.length := wipe_length σ [i]
    have wi : ((wipe σ [i]).set i (some (V.str z)))[i]? = some (some (V.str z)) := by
      rw [List.getElem?_set_self (by rw [wl]; exact hi)]
    have wa : ((wipe σ [i]).set i (some (V.str z)))[a]? = some (some (V.ref d)) := by
      rw [List.getElem?_set_ne (Ne.symm ha), wipe_out (by simpa using ha)]
      exact hs
    refine ⟨?_, ?_⟩
    · show ((wipe σ []).set i none |>.set i (some (V.str z)) |>.set i none) = (wipe σ []).set i none
      rw [List.set_set, List.set_set]
    have hd3 := s2 _ _ (s1 _ _ hd)
    refine ⟨_, wi, _, wa, _, wi, d, g z, rfl, by rw [← hv z hzk]; exact DGet.k (k := .inr z) hd3, ?_⟩
    refine ⟨sz (by show 2 ≤ 100000; decide), fun T nT => ?_⟩
    have sT := same_new nT (o := .tup [.str z, g z])
    have eT : (upd H3 T (.tup [.str z, g z])) T = some (.tup [.str z, g z]) := upd_same
    have hu2 := sT _ _ hu
    have tk := tk_lst (K := K) (o := .lst (us ++ [.ref T])) hu2
    refine ⟨us, hu2, szl (by omega), us ++ [.ref T], upd_same, ?_, by rw [List.length_append, hul]; rfl, ?_⟩
    · have e : prs f (ys.take (j + 1)) = prs f (ys.take j) ++ [.tuple [.str z, f z]] := by
        unfold prs
        rw [List.take_add_one, hz, List.map_append]
        rfl
      rw [e]
      refine da_app (da_tk tk _ _ (tup_prs ht _) (dpAll_same sT hda)) (da_one ?_)
      exact .tup (sqt (show (upd (upd H3 T (.tup [.str z, g z])) D (.lst (us ++ [.ref T]))) T = some (.tup [.str z, g z]) by rw [upd_ne fun e => by rw [e, hu] at nT; cases nT]; exact eT)) (.cons (.str z) (da_one (hf z _)))
    · intro b o hb
      rw [upd_ne (ne_of_none hb hD)]
      exact sT _ _ (s2 _ _ hb)
  · rintro H2 ⟨us, hu, hda, hul, s2⟩
    rw [List.length_map, List.take_length] at hda
    exact q D H2 us ys (Same.trans s1 s2) hu (s1.free hD) hda pm st
end
end K14
namespace K14
local macro_rules | `(tactic| walk_at "rd") => `(tactic| repeat (first | refine ⟨rfl, ?_⟩ | refine ⟨_, rfl, ?_⟩ | refine ⟨_, _, rfl, rfl, ?_⟩ | refine ⟨⟨_, rfl⟩, ?_⟩))
open PySem PySem.Spec PyProof.Rows L2 Bx TL Dx Zx Ow Sup NdefX Px
theorem st_co {t : TS} {D : Ends} {rest : TS} {σ : List (Option V)} {H : Hp} (R : List (Option V) → Hp → Prop) (h : ∀ D' : Ends, (∀ σ' H', R σ' H' → D'.nx σ' H') → t D' σ H) (k : ∀ σ' H', R σ' H' → rest D σ' H') : tSeq t rest D σ H :=
  h { D with nx := rest D } k
def intF (l : As) (z : Str) : PyData := .int (vl l z)
theorem kn_pl {ns : List Str} {l : As} {x : Str} (e : l.map (·.1) = ns) (h : x ∈ pls ns) : Kn l x := by
  rcases List.mem_cons.mp h with h | h
  · exact .inl h
  · exact .inr (by rw [e]; exact h)
section
variable {P : Program} {w : World} {K : PySem.W.Frag} {mg : Str → Option Value} {base : Heap}
theorem tk_dk {H : Hp} {p : Addr} {ys : List (Key × V)} {o : HO} (hp : H p = some (.dK ys)) : Tk K H (upd H p o) := fun a xs h => by
  rcases h with (h | ⟨u, h⟩) | h
  · exact .inl (.inl (by rw [upd_ne fun z => by rw [z, hp] at h; cases h]; exact h))
  · exact .inl (.inr ⟨u, by rw [upd_ne fun z => by rw [z, hp] at h; cases h]; exact h⟩)
  · exact .inr h
theorem new_put {l : As} {ns : List Str} {i : Nat} {z : Str} (nd : ns.Nodup) (e : l.map (·.1) = ns.take i) (hz : ns[i]? = some z) : z ∉ l.map (·.1) := by
  rw [e]
  intro hm
  obtain ⟨j, hj⟩ := List.mem_iff_getElem?.mp hm
  rw [List.getElem?_take] at hj
  split at hj
  · rename_i hlt
    obtain ⟨hi, ei⟩ := List.getElem?_eq_some_iff.mp hz
    obtain ⟨hj', ej⟩ := List.getElem?_eq_some_iff.mp hj
    exact List.pairwise_iff_getElem.mp nd j i hj' hi hlt (ej.trans ei.symm)
  · cases hj
@[irreducible] def spNm (K : PySem.W.Frag) : Sp := fun vs H Q _ => ∃ (s t : Addr) (ns : List Str), vs = [.ref s, .ref t] ∧ Src H s ∧ SqT K H t (ns.map V.str) ∧ Ok8 ns ∧ ∀ H', SameBut s H H' → Src H' s → Q (.bl true) H'
set_option maxHeartbeats 4000000 in
theorem ok_holds_right {C : Addr} {f : Addr} {fd : FuncData} (F : Fun K "_law_holds_right" "_law_holds_right" s__law_holds_right f fd) (m_range : mg "range" = none) (m_sorted : mg "sorted" = none) (m_isinstance : mg "isinstance" = none) (m_bool : mg "bool" = none) (B_Steps : Mk0.Bare K mg "Steps" C) (C__law_draw : CDraw P w K mg base)
    (C__law_constraint : Cal P w K mg base "_law_constraint" 3 ["_law_source_here", "_law_names"] (spCtr K)) (C__law_value : Cal P w K mg base "_law_value" 1 ["_law_values", "_law_name"] spVal2) (M_holds : MthC P w K mg base C "holds" 2 ["self", "constraint", "assignment"] (spHolds K)) : FnOk P w K mg base CX0 4 f fd ["_law_source_here", "_law_names"] (spNm K) := by
  refine F.ok sc__law_holds_right (fun vs H Q E h => ?_) (fun cdv A outer s H vs Q E hr h => ?_)
  · unfold spNm at h
    obtain ⟨s, t, ns, rfl, _⟩ := h
    rfl
  · unfold spNm at h
    obtain ⟨src, t, ns, rfl, hA, ht, o8, q⟩ := h
    have hu := hu_of hr
    refine ⟨_, (pss_cons (ps_set (i := 2) sc__law_holds_right.nd rfl (Or.inr rfl) pe_dnewK)
    (pss_cons (ps_for PassesOwn.never rfl (pi_tup (pv 1)) (pg_name (i := 3) sc__law_holds_right.nd rfl (Or.inl rfl))
      (pss_one (ps_dput hu (pv 2) (pv 3) (pe_op op_sub (pe_cal C__law_draw (hr.mono (by decide)) (pa_cons (pv 0) (pa_cons pe_int pa_nil))) pe_int) rfl)))
    (pss_cons (ps_setLc (i := 4) (own := [("_law_name", 3)]) (tt := tYes) rfl sc__law_holds_right.nd rfl rfl (sw_true rfl rfl rfl (by decide +kernel)) (pi_list (pe_callB (id := "sorted") (call_sortedD rfl) (by rfl) m_sorted (by decide +kernel) (pa_cons (pv 2) pa_nil))) (blkOk_by (N := n__law_holds_right) (sc := defScope s__law_holds_right) (by decide +kernel)) (fun _ _ _ _ _ => pg_name (i := 3) sc__law_holds_right.nd rfl (Or.inl rfl)) (fun _ _ _ _ _ => pts_nil) (fun _ _ _ _ _ => (pe_tup (pa_cons (pv 3) (pa_cons (pe_dget hu (pv 2) (pv 3) (fun _ _ => rfl)) pa_nil)))))
    (pss_cons (ps_set (i := 5) sc__law_holds_right.nd rfl (Or.inl rfl) (pe_ix ix_tup (pe_cal C__law_constraint (hr.mono (by decide)) (pa_cons (pv 0) (pa_cons (pv 1) pa_nil))) pe_int (fun _ _ => rfl)))
    (pss_cons (ps_set (i := 6) sc__law_holds_right.nd rfl (Or.inl rfl) (pe_ix ix_tup (pe_cal C__law_constraint (hr.mono (by decide)) (pa_cons (pv 0) (pa_cons (pv 1) pa_nil))) pe_int (fun _ _ => rfl)))
    (pss_cons (ps_if (pt_cmpR op_eq (pv 5) (pv 6) (nomark _))
      (pss_cons (ps_set (i := 5) sc__law_holds_right.nd rfl (Or.inl rfl) pe_str)
    (pss_one (ps_set (i := 6) sc__law_holds_right.nd rfl (Or.inl rfl) pe_str)))
      pss_nil)
    (pss_cons (ps_set (i := 7) sc__law_holds_right.nd rfl (Or.inl rfl) (pe_op op_sub (pe_cal C__law_value (hr.mono (by decide)) (pa_cons (pv 2) (pa_cons (pv 5) pa_nil))) (pe_cal C__law_value (hr.mono (by decide)) (pa_cons (pv 2) (pa_cons (pv 6) pa_nil)))))
    (pss_cons (ps_for PassesOwn.never rfl (pi_range1 (by rfl) m_range (pa_cons pe_int pa_nil)) (pg_name (i := 8) sc__law_holds_right.nd rfl (Or.inl rfl))
      (pss_cons (ps_set (i := 9) sc__law_holds_right.nd rfl (Or.inl rfl) (pe_mth M_holds (hr.mono (by decide)) (Mk0.pe_bare B_Steps) (pa_cons (pe_tup (pa_cons (pv 5) (pa_cons (pv 6) (pa_cons (pe_op op_sub (pe_op op_add (pv 7) (pv 8)) pe_int) pa_nil)))) (pa_cons (pv 2) pa_nil)) (ht := mcall_of (abase_call (by decide +kernel)) (fun _ => rfl))))
    (pss_one (ps_if (PW.pt (pw_or (pt_not (pt_val (pe_callB (id := "isinstance") call_isi (by rfl) m_isinstance (by decide +kernel) (pa_cons (pv 9) (pa_cons (pe_bltn (v := .ty "bool") (by rfl) m_bool (by decide +kernel) rfl) pa_nil))))) (pw_or1 (pt_cmpR op_ne (pv 9) (pe_cmpR op_gt (pv 8) pe_int (nomark _)) (nomark _)))))
      (pss_one (ps_ret pe_bl))
      pss_nil))))
    (pss_cons (ps_set (i := 9) sc__law_holds_right.nd rfl (Or.inl rfl) (pe_mth M_holds (hr.mono (by decide)) (Mk0.pe_bare B_Steps) (pa_cons (pe_tup (pa_cons (pv 5) (pa_cons (pv 6) (pa_cons (pe_op op_sub pe_int (pv 7)) pa_nil)))) (pa_cons (pv 2) pa_nil)) (ht := mcall_of (abase_call (by decide +kernel)) (fun _ => rfl))))
    (pss_cons (ps_if (pt_cmpR op_ne (pv 9) (pe_cmpR op_le (pe_op op_mul pe_int (pv 7)) pe_int (nomark _)) (nomark _))
      (pss_one (ps_ret pe_bl))
      pss_nil)
    (pss_one (ps_ret (pe_cmpR (op_eqD hr.units) (pe_lc (own := [("_law_name", 3)]) (tt := tYes) rfl sc__law_holds_right.nd (pi_list (pe_callB (id := "sorted") (call_sortedD rfl) (by rfl) m_sorted (by decide +kernel) (pa_cons (pv 2) pa_nil))) (blkOk_by (N := n__law_holds_right) (sc := defScope s__law_holds_right) (by decide +kernel)) (fun _ _ _ _ _ => pg_name (i := 3) sc__law_holds_right.nd rfl (Or.inl rfl)) (fun _ _ _ _ _ => pts_nil) (fun _ _ _ _ _ => (pe_tup (pa_cons (pv 3) (pa_cons (pe_dget hu (pv 2) (pv 3) (fun _ _ => rfl)) pa_nil))))) (pv 4) (nomark _)))))))))))))), ?_⟩
    walk_at "rd"
    refine fun d nd => ?_
    have nds := src_ne hA nd
    walk_at "rd"
    have u0 := same_new nd (o := .dK [])
    refine ⟨⟨_, Bx.Same.tup u0 ht⟩, ?_⟩
    refine for_it walk_tup (fun i σ H' => ∃ (o3 : Option V) (l : As), σ = [some (.ref src), some (.ref t), some (.ref d), o3, none, none, none, none, none, none] ∧ H' d = some (.dK (asV l)) ∧ l.map (·.1) = ns.take i ∧ SameBut src H H' ∧ Src H' src)
      ⟨none, [], rfl, upd_same, rfl, Bx.Same.but u0, src_upd hA nds⟩ (fun i σ H' _ h => by obtain ⟨_, _, _, _, _, b, _⟩ := h; exact sqt_but hA b ht) ?_ ?_
    · rintro i v σ H1 H1' hi ⟨o3, l, rfl, hd, hk, b1, hA1⟩ ⟨rfl, hx⟩
      obtain ⟨z, hz, rfl⟩ := at_map hx
      rw [List.length_map] at hi
      walk_at "rd"
      refine draw_of hA1 ⟨by decide, by decide⟩ fun r H2 r0 r1 s2 hA2 => ?_
      have hd2 := s2 _ _ nds.symm hd
      have zl := new_put o8.nd hk hz
      have lk : l.length ≤ 8 := by
        have e := congrArg List.length hk
        rw [List.length_map] at e
        have := List.length_take_le' i ns
        have := o8.len
        omega
      walk_at "rd"
      refine ⟨_, _, rfl, DPut.k (k := .inr z) hd2 (by rw [show (asV l).length = l.length from List.length_map _]; exact szl (by omega)), ?_⟩
      rw [put_as zl]
      refine ⟨_, put l z (r - 40), rfl, upd_same, ?_, ?_, src_upd hA2 nds⟩
      · unfold put
        rw [List.map_append, hk, List.take_add_one, hz]
        rfl
      · exact but_at nd (b1.trans s2)
    rintro σ H1 ⟨o3, l, rfl, hd, hk, b1, hA1⟩
    rw [List.length_map, List.take_length] at hk
    have lk : l.length ≤ 8 := by
      have e := congrArg List.length hk
      rw [List.length_map] at e
      have := o8.len
      omega
    have hv : ∀ z ∈ ns, valV (asV l) (.inr z) = some (.int (vl l z)) := fun z hz => has_as (by rw [hk]; exact hz) (o8.ne z hz)
    have key : (asV l).map (·.1) = ns.map Sum.inr := by rw [keys_as, hk]
    have lc64 : ns.length < 64 := by have := o8.len; omega
    dsimp only
    refine set_gi (te := tLc _ _ _ _ _) (i := 4) (fun v H' => ∃ (D : Addr) (us : List V), v = .ref D ∧ Same H1 H' ∧ H1 D = none ∧ H' D = some (.lst us) ∧ DpAll K H' us (prs (intF l) ns)) (fun Z hZ => ?_) (fun v H2 => ?_)
    · refine pairs_lc (a := 2) (g := fun z => .int (vl l z)) (f := intF l) (by show 3 < 10; decide) (by decide) rfl hd lc64 hv (fun z H' => .int _) (fun z => rfl) (fun R hR => ?_) (fun D H' us ys s h1 h0 h2 pm st => ?_)
      · walk_at "rd"
        exact ⟨d, _, ns, rfl, .inl hd, key, lc64, fun ys p pm st np => hR p _ ys (same_new np) upd_same pm st⟩
      · have e := perm_asc pm st o8.nd o8.asc (fun _ => Iff.rfl)
        rw [e] at h2
        exact hZ _ _ ⟨D, us, rfl, s, h0, h1, h2⟩
    rintro ⟨D, us, rfl, s2, nD, hD, hda⟩
    have hd2 := s2 _ _ hd
    have hA2 := src_same hA1 s2
    have b2 := b1.trans (Bx.Same.but s2)
    have nDs : D ≠ src := (src_ne hA1 nD).symm
    clear hd hA1 b1
    walk_at "rd"
    show spCtr K _ _ _ _
    unfold spCtr
    refine ⟨src, t, ns, rfl, hA2, .inr (sqt_but hA b2 ht), o8.len, fun p c H3 s3 hA3 np hp hx _ _ => ?_⟩
    refine ⟨p, _, _, _, rfl, rfl, sqt hp, atI_nat (j := 0) rfl, ?_⟩
    have b3 := b2.trans s3
    walk_at "rd"
    refine ⟨src, t, ns, rfl, hA3, .inr (sqt_but hA b3 ht), o8.len, fun p' c' H4 s4 hA4 np' hp' _ hy _ => ?_⟩
    refine ⟨p', _, _, _, rfl, rfl, sqt hp', atI_nat (j := 1) rfl, ?_⟩
    have b4 := b3.trans s4
    have hd4 := s4 _ _ nds.symm (s3 _ _ nds.symm hd2)
    have hD4 := s4 _ _ nDs (s3 _ _ nDs hD)
    have hda4 := da_tk (tk_but hA2 (s3.trans s4)) _ _ (tup_prs (f := intF l) (fun _ => rfl) ns) hda
    clear hda hD hd2
    dsimp only [gName]
    refine st_co (fun σ' H' => H' = H4 ∧ ∃ x y : Str, x ∈ pls ns ∧ y ∈ pls ns ∧ σ' = [some (.ref src), some (.ref t), some (.ref d), o3, some (.ref D), some (.str x), some (.str y), none, none, none]) (fun D' hD' => ?_) (fun σ' H5 => ?_)
    · walk_at "rd"
      refine ite2 (fun h6 => ?_) (fun h6 => ?_)
      · walk_at "rd"
        exact hD' _ _ ⟨rfl, emp, emp, List.mem_cons_self .., List.mem_cons_self .., rfl⟩
      · exact hD' _ _ ⟨rfl, c.1, c'.2.1, hx, hy, rfl⟩
    rintro ⟨rfl, x, y, hx, hy, rfl⟩
    have kx := kn_pl hk hx
    have ky := kn_pl hk hy
    walk_at "rd"
    refine value2_of hd4 kx ?_
    walk_at "rd"
    refine value2_of hd4 ky ?_
    walk_at "rd"
    refine ⟨by decide, by decide, ?_⟩
    refine for_it walk_range (fun i σ H' => ∃ (o8 o9 : Option V), σ = [some (.ref src), some (.ref t), some (.ref d), o3, some (.ref D), some (.str x), some (.str y), some (.int (vl l x - vl l y)), o8, o9] ∧ Same H5 H') ⟨none, none, rfl, Same.refl _⟩ (fun _ _ _ _ _ => trivial) ?_ ?_
    · rintro i z σ H6 H6' hi ⟨o8', o9', rfl, s6⟩ ⟨rfl, rfl⟩
      walk_at "rd"
      refine fun k dk nk ndk ne => ?_
      obtain ⟨u1, hk1⟩ := bare_new (C := C) nk ndk ne
      generalize upd (upd H6' dk (.own k)) k (.ins C dk []) = H7 at u1 hk1 ⊢
      refine ⟨k, dk, [], rfl, hk1, rfl, ?_⟩
      walk_at "rd"
      refine ⟨sz (by show 3 ≤ 100000; decide), fun T nT => ?_⟩
      have u2 := same_new nT (o := .tup [.str x, .str y, .int (vl l x - vl l y + (0 + (i : Int)) - 1)])
      have hT := upd_same (H := H7) (a := T) (o := .tup [.str x, .str y, .int (vl l x - vl l y + (0 + (i : Int)) - 1)])
      walk_at "rd"
      show spHolds K _ _ _ _
      unfold spHolds
      have s7 := Same.trans s6 (Same.trans u1 u2)
      refine ⟨k, T, d, (x, y, vl l x - vl l y + (0 + (i : Int)) - 1), l, rfl, sqt hT, s7 _ _ hd4, kx, ky, ?_⟩
      have eh : hold l (x, y, vl l x - vl l y + (0 + (i : Int)) - 1) = decide ((0 : Int) < 0 + (i : Int)) := by
        unfold hold
        exact decide_eq_decide.mpr ⟨fun h => by have h' : vl l x - vl l y ≤ vl l x - vl l y + (0 + (i : Int)) - 1 := h; omega, fun h => by show vl l x - vl l y ≤ vl l x - vl l y + (0 + (i : Int)) - 1; omega⟩
      rw [eh]
      generalize upd H7 T _ = H8 at s7 ⊢
      walk_at "rd"
      refine ⟨_, _, _, _, true, rfl, .ty "bool", .base (.bl _), kit_ty (by decide +kernel), ?_⟩
      walk_at "rd"
      rw [show (!decide (V.bl (decide ((0 : Int) < 0 + (i : Int))) = V.bl (decide ((0 : Int) < 0 + (i : Int))))) = false by simp]
      refine ite2 (fun h => absurd h (by decide)) (fun _ => ?_)
      exact ⟨_, _, rfl, s7⟩
    rintro σ H6 ⟨o8', o9', rfl, s6⟩
    walk_at "rd"
    refine fun k dk nk ndk ne => ?_
    obtain ⟨u1, hk1⟩ := bare_new (C := C) nk ndk ne
    generalize upd (upd H6 dk (.own k)) k (.ins C dk []) = H7 at u1 hk1 ⊢
    refine ⟨k, dk, [], rfl, hk1, rfl, ?_⟩
    walk_at "rd"
    refine ⟨sz (by show 3 ≤ 100000; decide), fun T nT => ?_⟩
    have u2 := same_new nT (o := .tup [.str x, .str y, .int (0 - (vl l x - vl l y))])
    have hT := upd_same (H := H7) (a := T) (o := .tup [.str x, .str y, .int (0 - (vl l x - vl l y))])
    walk_at "rd"
    have s7 := Same.trans s6 (Same.trans u1 u2)
    show spHolds K _ _ _ _
    unfold spHolds
    refine ⟨k, T, d, (x, y, 0 - (vl l x - vl l y)), l, rfl, sqt hT, s7 _ _ hd4, kx, ky, ?_⟩
    have eh : hold l (x, y, 0 - (vl l x - vl l y)) = decide (2 * (vl l x - vl l y) ≤ 0) := by
      unfold hold
      exact decide_eq_decide.mpr ⟨fun h => by have h' : vl l x - vl l y ≤ 0 - (vl l x - vl l y) := h; omega, fun h => by show vl l x - vl l y ≤ 0 - (vl l x - vl l y); omega⟩
    rw [eh]
    generalize upd H7 T _ = H8 at s7 ⊢
    walk_at "rd"
    refine ⟨.inl ⟨by decide, by decide⟩, ?_⟩
    walk_at "rd"
    rw [show (!decide (V.bl (decide (2 * (vl l x - vl l y) ≤ 0)) = V.bl (decide (2 * (vl l x - vl l y) ≤ 0)))) = false by simp]
    refine ite2 (fun h => absurd h (by decide)) (fun _ => ?_)
    dsimp only [tNext, tRet, tOp]
    refine pairs_lc (a := 2) (g := fun z => .int (vl l z)) (f := intF l) (by show 3 < 10; decide) (by decide) rfl (s7 _ _ hd4) lc64 hv (fun z H' => .int _) (fun z => rfl) (fun R hR => ?_) (fun D2 H9 us2 ys s9 h1 h0 h2 pm st => ?_)
    · walk_at "rd"
      exact ⟨d, _, ns, rfl, .inl (s7 _ _ hd4), key, lc64, fun ys p pm st np => hR p _ ys (same_new np) upd_same pm st⟩
    · have e := perm_asc pm st o8.nd o8.asc (fun _ => Iff.rfl)
      rw [e] at h2
      walk_at "rd"
      have s59 := Same.trans s7 s9
      have ly : Lay 2 (.list (prs (intF l) ns)) := lay_list (lays_of fun dd hdd => by
        obtain ⟨z, hz, rfl⟩ := List.mem_map.mp hdd
        exact lay_tuple (lays_cons (lay_str (o8.ok z hz)) (lays_cons lay_int lays_nil)))
      refine ⟨.list (prs (intF l) ns), .list (prs (intF l) ns), .lst (sq h1) h2, .lst (sq (s59 _ _ hD4)) (dpAll_same s59 hda4), shape ly (by decide), shape ly (by decide), ?_⟩
      rw [eq_refl ly]
      exact q _ (b4.trans (Bx.Same.but s59)) (src_same hA4 s59)
end
end K14
namespace K14
local macro_rules | `(tactic| walk_at "rd") => `(tactic| repeat (first | refine ⟨rfl, ?_⟩ | refine ⟨_, rfl, ?_⟩ | refine ⟨_, _, rfl, rfl, ?_⟩ | refine ⟨⟨_, rfl⟩, ?_⟩))
open PySem PySem.Spec PyProof.Rows L2 Bx TL Dx Zx Ow Sup NdefX Px
theorem pins_put {l : As} {z : Str} {v : Int} : ∀ {ms : List Str}, z ∉ ms → pins (put l z v) ms = pins l ms
  | [], _ => rfl
  | m :: r, h => by
    show pin2 (put l z v) m ++ pins (put l z v) r = pin2 l m ++ pins l r
    rw [pins_put fun e => h (List.mem_cons_of_mem _ e)]
    unfold pin2
    rw [vl_ne fun e => h (by rw [e]; exact List.mem_cons_self ..)]
theorem pin2_put {l : As} {z : Str} {v : Int} (h0 : z ≠ emp) (h : z ∉ l.map (·.1)) : pin2 (put l z v) z = [(z, emp, v), (emp, z, 0 - v)] := by
  unfold pin2
  rw [vl_eq h0 h, Int.zero_sub]
theorem lay_ctr {c : Ctr} (h1 : PyData.strOk c.1 = true) (h2 : PyData.strOk c.2.1 = true) : Lay 1 (ctD c) := lay_tuple (lays_cons (lay_str h1) (lays_cons (lay_str h2) (lays_cons lay_int lays_nil)))
theorem ok_emp : PyData.strOk emp = true := by decide +kernel
theorem pins_end {l : As} : ∀ {ns : List Str} {c : Ctr}, c ∈ pins l ns → (c.1 ∈ ns ∧ c.2.1 = emp) ∨ (c.1 = emp ∧ c.2.1 ∈ ns)
  | z :: r, c, h => by
    rcases List.mem_append.mp (show c ∈ pin2 l z ++ pins l r from h) with h | h
    · rcases List.mem_cons.mp h with h | h
      · rw [h]
        exact .inl ⟨List.mem_cons_self .., rfl⟩
      · rw [List.mem_singleton.mp h]
        exact .inr ⟨rfl, List.mem_cons_self ..⟩
    · rcases pins_end h with ⟨a, b⟩ | ⟨a, b⟩
      · exact .inl ⟨List.mem_cons_of_mem _ a, b⟩
      · exact .inr ⟨a, List.mem_cons_of_mem _ b⟩
section
variable {P : Program} {w : World} {K : PySem.W.Frag} {mg : Str → Option Value} {base : Heap}
set_option maxHeartbeats 4000000 in
theorem ok_pin_right {C : Addr} {f : Addr} {fd : FuncData} (F : Fun K "_law_pin_right" "_law_pin_right" s__law_pin_right f fd) (m_sorted : mg "sorted" = none) (m_isinstance : mg "isinstance" = none) (m_bool : mg "bool" = none) (m_int : mg "int" = none) (m_tuple : mg "tuple" = none) (m_list : mg "list" = none) (B_Steps : Mk0.Bare K mg "Steps" C) (C__law_draw : CDraw P w K mg base)
    (M_pin : MthC P w K mg base C "pin" 1 ["self", "names", "assignment"] (spPin K)) : FnOk P w K mg base CX0 3 f fd ["_law_source_here", "_law_names"] (spNm K) := by
  refine F.ok sc__law_pin_right (fun vs H Q E h => ?_) (fun cdv A outer s H vs Q E hr h => ?_)
  · unfold spNm at h
    obtain ⟨s, t, ns, rfl, _⟩ := h
    rfl
  · unfold spNm at h
    obtain ⟨src, t, ns, rfl, hA, ht, o8, q⟩ := h
    have hu := hu_of hr
    refine ⟨_, (pss_cons (ps_set (i := 2) sc__law_pin_right.nd rfl (Or.inl rfl) pe_dnewK)
    (pss_cons (ps_set (i := 3) sc__law_pin_right.nd rfl (Or.inl rfl) (pe_lst pa_nil))
    (pss_cons (ps_for PassesOwn.never rfl (pi_tup (pv 1)) (pg_name (i := 4) sc__law_pin_right.nd rfl (Or.inl rfl))
      (pss_cons (ps_set (i := 7) sc__law_pin_right.nd rfl (Or.inl rfl) (pe_op op_sub (pe_cal C__law_draw (hr.mono (by decide)) (pa_cons (pv 0) (pa_cons pe_int pa_nil))) pe_int))
    (pss_cons (ps_dput hu (pv 2) (pv 4) (pv 7) rfl)
    (pss_cons (ps_expr (pe_bm PySem.F.plainAttrs_list PySem.F.slot_list_append PySem.F.type_list_append mt_append (pv 3) (pa_cons (pe_tup (pa_cons (pv 4) (pa_cons pe_str (pa_cons (pv 7) pa_nil)))) pa_nil)))
    (pss_one (ps_expr (pe_bm PySem.F.plainAttrs_list PySem.F.slot_list_append PySem.F.type_list_append mt_append (pv 3) (pa_cons (pe_tup (pa_cons pe_str (pa_cons (pv 4) (pa_cons (pe_op op_sub pe_int (pv 7)) pa_nil)))) pa_nil))))))))
    (pss_cons (ps_set (i := 5) sc__law_pin_right.nd rfl (Or.inl rfl) (pe_mth M_pin (hr.mono (by decide)) (Mk0.pe_bare B_Steps) (pa_cons (pv 1) (pa_cons (pv 2) pa_nil)) (ht := mcall_of (abase_call (by decide +kernel)) (fun _ => rfl))))
    (pss_cons (ps_if (PW.pt (pw_or (pt_cmpR (op_neD hr.units) (pv 5) (pe_tup (pa_cons (pv 1) (pa_cons (pe_callTy (T := "tuple") call_tuple_of (by rfl) m_tuple (by decide +kernel) (pa_cons (pv 3) pa_nil)) pa_nil))) (nomark _)) (pw_or1 (pt_cmpR (op_neD hr.units) (pe_callB (id := "sorted") (call_sortedD rfl) (by rfl) m_sorted (by decide +kernel) (pa_cons (pv 2) pa_nil)) (pe_callTy (T := "list") call_list_of (by rfl) m_list (by decide +kernel) (pa_cons (pv 1) pa_nil)) (nomark _)))))
      (pss_one (ps_ret pe_bl))
      pss_nil)
    (pss_cons (ps_for PassesOwn.never rfl (pi_tup (pe_ix ix_tup (pv 5) pe_int (fun _ _ => rfl))) (pg_name (i := 6) sc__law_pin_right.nd rfl (Or.inl rfl))
      (pss_one (ps_if (PW.pt (pw_or (pt_not (pt_val (pe_callB (id := "isinstance") call_isi (by rfl) m_isinstance (by decide +kernel) (pa_cons (pe_ix ix_tup (pv 6) pe_int (fun _ _ => rfl)) (pa_cons (pe_bltn (v := .ty "int") (by rfl) m_int (by decide +kernel) rfl) pa_nil))))) (pw_or1 (pt_val (pe_callB (id := "isinstance") call_isi (by rfl) m_isinstance (by decide +kernel) (pa_cons (pe_ix ix_tup (pv 6) pe_int (fun _ _ => rfl)) (pa_cons (pe_bltn (v := .ty "bool") (by rfl) m_bool (by decide +kernel) rfl) pa_nil)))))))
      (pss_one (ps_ret pe_bl))
      pss_nil)))
    (pss_one (ps_ret pe_bl)))))))), ?_⟩
    walk_at "rd"
    refine fun d nd => ?_
    have nds := src_ne hA nd
    walk_at "rd"
    have u0 := same_new nd (o := .dK [])
    have hd0 := upd_same (H := H) (a := d) (o := .dK [])
    have hA0 := src_same hA u0
    generalize upd H d (.dK []) = H0 at u0 hd0 hA0 ⊢
    refine ⟨sz (by show 0 ≤ 100000; decide), fun L nL => ?_⟩
    have u1 := same_new nL (o := .lst [])
    have hL0 := upd_same (H := H0) (a := L) (o := .lst [])
    have ndL : d ≠ L := ne_of_none hd0 nL
    have nLs := src_ne hA0 nL
    have nLH : H L = none := u0.free nL
    have hA1 := src_same hA0 u1
    have hd1 := u1 _ _ hd0
    have u01 := Same.trans u0 u1
    generalize upd H0 L (.lst []) = H1 at u01 hL0 hA1 hd1 ⊢
    walk_at "rd"
    refine ⟨⟨_, Bx.Same.tup u01 ht⟩, ?_⟩
    refine for_it walk_tup (fun i σ H' => ∃ (o4 o7 : Option V) (l : As) (us : List V), σ = [some (.ref src), some (.ref t), some (.ref d), some (.ref L), o4, none, none, o7] ∧ H' d = some (.dK (asV l)) ∧ l.map (·.1) = ns.take i ∧ SameBut src H H' ∧ Src H' src ∧ H' L = some (.lst us) ∧ DpAll K H' us ((pins l (ns.take i)).map ctD))
      ⟨none, none, [], [], rfl, hd1, rfl, Bx.Same.but u01, hA1, hL0, .nil⟩ (fun i σ H' _ h => by obtain ⟨_, _, _, _, _, _, _, b, _⟩ := h; exact sqt_but hA b ht) ?_ ?_
    · rintro i v σ H2 H2' hi ⟨o4, o7, l, us, rfl, hd, hk, b2, hA2, hL, hda⟩ ⟨rfl, hx⟩
      obtain ⟨z, hz, rfl⟩ := at_map hx
      rw [List.length_map] at hi
      walk_at "rd"
      refine draw_of hA2 ⟨by decide, by decide⟩ fun r H3 r0 r1 s3 hA3 => ?_
      have hd3 := s3 _ _ nds.symm hd
      have hL3 := s3 _ _ nLs.symm hL
      have zl := new_put o8.nd hk hz
      have z0 := o8.ne z (List.mem_of_getElem? hz)
      have lk : l.length ≤ 8 := by
        have e := congrArg List.length hk
        rw [List.length_map] at e
        have := List.length_take_le' i ns
        have := o8.len
        omega
      walk_at "rd"
      refine ⟨d, _, rfl, DPut.k (k := .inr z) hd3 (by rw [show (asV l).length = l.length from List.length_map _]; exact szl (by omega)), ?_⟩
      rw [put_as zl]
      have hd4 := upd_same (H := H3) (a := d) (o := .dK (asV (put l z (r - 40))))
      have hL4 : (upd H3 d (.dK (asV (put l z (r - 40))))) L = some (.lst us) := by rw [upd_ne (Ne.symm ndL)]; exact hL3
      have hA4 : Src (upd H3 d (.dK (asV (put l z (r - 40))))) src := src_upd hA3 nds
      have b4 : SameBut src H (upd H3 d (.dK (asV (put l z (r - 40))))) := but_at nd (b2.trans s3)
      have tk4 : Tk K H2' (upd H3 d (.dK (asV (put l z (r - 40))))) := Tk.trans (tk_but hA2 s3) (tk_dk hd3)
      have hda4 := da_tk tk4 _ _ (tup_ctr _) hda
      generalize upd H3 d (.dK (asV (put l z (r - 40)))) = H4 at hd4 hL4 hA4 b4 hda4 ⊢
      clear hd hL hda hd3 hL3 tk4
      walk_at "rd"
      have ul : us.length ≤ 40 := by
        rw [da_len hda4, List.length_map, pins_len]
        have := List.length_take_le' i ns
        have := o8.len
        omega
      refine ⟨.inl ⟨rfl, _, sq hL4⟩, ?_⟩
      walk_at "rd"
      refine ⟨sz (by show 3 ≤ 100000; decide), fun T1 nT1 => ?_⟩
      have g1 := same_new nT1 (o := .tup [.str z, .str emp, .int (r - 40)])
      have e1 := upd_same (H := H4) (a := T1) (o := .tup [.str z, .str emp, .int (r - 40)])
      have hd5 := g1 _ _ hd4
      have hL5 := g1 _ _ hL4
      have hA5 := src_same hA4 g1
      have b5 := b4.trans (Bx.Same.but g1)
      have hda5 := dpAll_same g1 hda4
      generalize upd H4 T1 (.tup [.str z, .str emp, .int (r - 40)]) = H5 at hd5 hL5 hA5 b5 hda5 e1 ⊢
      clear hd4 hL4 hA4 b4 hda4 g1 nT1
      refine ⟨L, _, _, rfl, rfl, hL5, szl (by omega), ?_⟩
      have hd6 : (upd H5 L (.lst (us ++ [.ref T1]))) d = some (.dK (asV (put l z (r - 40)))) := by rw [upd_ne ndL]; exact hd5
      have hL6 := upd_same (H := H5) (a := L) (o := .lst (us ++ [.ref T1]))
      have hA6 : Src (upd H5 L (.lst (us ++ [.ref T1]))) src := src_upd hA5 nLs
      have b6 : SameBut src H (upd H5 L (.lst (us ++ [.ref T1]))) := but_at nLH b5
      have tk6 : Tk K H5 (upd H5 L (.lst (us ++ [.ref T1]))) := tk_lst hL5
      have hda6 : DpAll K (upd H5 L (.lst (us ++ [.ref T1]))) (us ++ [.ref T1]) ((pins l (ns.take i)).map ctD ++ [ctD (z, emp, r - 40)]) := da_app (da_tk tk6 _ _ (tup_ctr _) hda5) (da_one (dp_tk tk6 _ _ rfl (dp_ctr (c := (z, emp, r - 40)) (sqt e1))))
      generalize upd H5 L (.lst (us ++ [.ref T1])) = H6 at hd6 hL6 hA6 b6 hda6 ⊢
      clear hd5 hL5 hA5 b5 hda5 e1 tk6
      walk_at "rd"
      refine ⟨.inl ⟨rfl, _, sq hL6⟩, ?_⟩
      walk_at "rd"
      refine ⟨sz (by show 3 ≤ 100000; decide), fun T2 nT2 => ?_⟩
      have g1 := same_new nT2 (o := .tup [.str emp, .str z, .int (0 - (r - 40))])
      have e1 := upd_same (H := H6) (a := T2) (o := .tup [.str emp, .str z, .int (0 - (r - 40))])
      have hd7 := g1 _ _ hd6
      have hL7 := g1 _ _ hL6
      have hA7 := src_same hA6 g1
      have b7 := b6.trans (Bx.Same.but g1)
      have hda7 := dpAll_same g1 hda6
      generalize upd H6 T2 (.tup [.str emp, .str z, .int (0 - (r - 40))]) = H7 at hd7 hL7 hA7 b7 hda7 e1 ⊢
      clear hd6 hL6 hA6 b6 hda6 g1 nT2
      refine ⟨L, _, _, rfl, rfl, hL7, szl (by rw [List.length_append]; show us.length + 1 < 100000; omega), ?_⟩
      have tk8 : Tk K H7 (upd H7 L (.lst (us ++ [.ref T1] ++ [.ref T2]))) := tk_lst hL7
      have tt : tupAll ((pins l (ns.take i)).map ctD ++ [ctD (z, emp, r - 40)]) = true := by
        have := tup_ctr (pins l (ns.take i) ++ [(z, emp, r - 40)])
        rwa [List.map_append] at this
      refine ⟨_, _, put l z (r - 40), us ++ [.ref T1] ++ [.ref T2], rfl, by rw [upd_ne ndL]; exact hd7, ?_, but_at nLH b7, src_upd hA7 nLs, upd_same, ?_⟩
      · unfold put
        rw [List.map_append, hk, List.take_add_one, hz]
        rfl
      · have e8 : (pins (put l z (r - 40)) (ns.take (i + 1))).map ctD = ((pins l (ns.take i)).map ctD ++ [ctD (z, emp, r - 40)]) ++ [ctD (emp, z, 0 - (r - 40))] := by
          rw [pins_succ _ hz, pins_put (by rw [← hk]; exact zl), pin2_put z0 zl, List.map_append, List.append_assoc]
          rfl
        rw [e8]
        exact da_app (da_tk tk8 _ _ tt hda7) (da_one (dp_tk tk8 _ _ rfl (dp_ctr (c := (emp, z, 0 - (r - 40))) (sqt e1))))
    rintro σ H2 ⟨o4, o7, l, us, rfl, hd, hk, b2, hA2, hL, hda⟩
    rw [List.length_map, List.take_length] at hk hda
    have lk : l.length ≤ 8 := by
      have e := congrArg List.length hk
      rw [List.length_map] at e
      have := o8.len
      omega
    have ht2 := sqt_but hA b2 ht
    walk_at "rd"
    refine fun k dk nk ndk ne => ?_
    obtain ⟨u2, hk2⟩ := bare_new (C := C) nk ndk ne
    generalize upd (upd H2 dk (.own k)) k (.ins C dk []) = H3 at u2 hk2 ⊢
    refine ⟨k, dk, [], rfl, hk2, rfl, ?_⟩
    walk_at "rd"
    show spPin K _ _ _ _
    unfold spPin
    refine ⟨k, t, d, ns, l, rfl, Bx.Same.tup u2 ht2, u2 _ _ hd, (fun z hz => ⟨o8.ne z hz, by rw [hk]; exact hz⟩), by have := o8.len; omega, fun R ca xs H4 s4 hR hca hxs => ?_⟩
    have s24 := Same.trans u2 s4
    have hL4 := s24 _ _ hL
    have hd4 := s24 _ _ hd
    have hda4 := dpAll_same s24 hda
    have ht4 := Bx.Same.tup s24 ht2
    have b4 := b2.trans (Bx.Same.but s24)
    have hA4 := src_same hA2 s24
    walk_at "rd"
    refine ⟨L, us, rfl, .inl ⟨sq hL4, fun ct nct => ?_⟩⟩
    have s5 := same_new nct (o := .tup us)
    have h5 := upd_same (H := H4) (a := ct) (o := .tup us)
    generalize upd H4 ct (.tup us) = H5 at s5 h5 ⊢
    refine ⟨sz (by show 2 ≤ 100000; decide), fun R2 nR2 => ?_⟩
    have s6 := same_new nR2 (o := .tup [.ref t, .ref ct])
    have h6 := upd_same (H := H5) (a := R2) (o := .tup [.ref t, .ref ct])
    generalize upd H5 R2 (.tup [.ref t, .ref ct]) = H6 at s6 h6 ⊢
    have s56 := Same.trans s5 s6
    have okp : ∀ c ∈ pins l ns, PyData.strOk c.1 = true ∧ PyData.strOk c.2.1 = true := fun c hc => by
      rcases pins_end hc with ⟨a, b⟩ | ⟨a, b⟩
      · rw [b]; exact ⟨o8.ok _ a, ok_emp⟩
      · rw [a]; exact ⟨ok_emp, o8.ok _ b⟩
    have ly : Lay 3 (.tuple [.tuple (ns.map PyData.str), .tuple ((pins l ns).map ctD)]) := lay_tuple (lays_cons (lay_up (lay_tuple (n := 1) (lays_strs o8.ok)) (by decide)) (lays_cons (lay_tuple (lays_of fun dd hdd => by
      obtain ⟨c, hc, rfl⟩ := List.mem_map.mp hdd
      exact lay_ctr (okp c hc).1 (okp c hc).2)) lays_nil))
    refine ⟨.tuple [.tuple (ns.map PyData.str), .tuple ((pins l ns).map ctD)], .tuple [.tuple (ns.map PyData.str), .tuple ((pins l ns).map ctD)], .tup (sqt (s56 _ _ hR)) (.cons (names_dp (Bx.Same.tup s56 ht4)) (da_one (.tup (sqt (s56 _ _ hca)) (dpAll_same s56 hxs)))), .tup (sqt h6) (.cons (names_dp (Bx.Same.tup s56 ht4)) (da_one (.tup (sqt (s6 _ _ h5)) (dpAll_same s56 hda4)))), shape ly (by decide), shape ly (by decide), ?_⟩
    rw [eq_refl ly]
    walk_at "rd"
    have key : (asV l).map (·.1) = ns.map Sum.inr := by rw [keys_as, hk]
    have lc64 : ns.length < 64 := by have := o8.len; omega
    refine ⟨d, _, ns, rfl, .inl (s56 _ _ hd4), key, lc64, fun ys p pm st np => ?_⟩
    have e := perm_asc pm st o8.nd o8.asc (fun _ => Iff.rfl)
    subst e
    have s7 := same_new np (o := .lst (ys.map V.str))
    have h7 := upd_same (H := H6) (a := p) (o := .lst (ys.map V.str))
    generalize upd H6 p (.lst (ys.map V.str)) = H7 at s7 h7 ⊢
    have s57 := Same.trans s56 s7
    walk_at "rd"
    refine ⟨t, _, rfl, .inr (Bx.Same.tup s57 ht4), fun p2 np2 => ?_⟩
    have s8 := same_new np2 (o := .lst (ys.map V.str))
    have h8 := upd_same (H := H7) (a := p2) (o := .lst (ys.map V.str))
    generalize upd H7 p2 (.lst (ys.map V.str)) = H8 at s8 h8 ⊢
    have s58 := Same.trans s57 s8
    have ly2 : Lay 1 (.list (ys.map PyData.str)) := lay_list (lays_strs o8.ok)
    refine ⟨.list (ys.map PyData.str), .list (ys.map PyData.str), .lst (sq (s8 _ _ h7)) (dp_strs ys), .lst (sq h8) (dp_strs ys), shape ly2 (by decide), shape ly2 (by decide), ?_⟩
    rw [eq_refl ly2]
    have b8 := b4.trans (Bx.Same.but s58)
    have hA8 := src_same hA4 s58
    have hR8 := s58 _ _ hR
    have hca8 := s58 _ _ hca
    have hxs8 := dpAll_same s58 hxs
    walk_at "rd"
    refine ⟨_, _, _, _, rfl, rfl, sqt hR8, atI_nat (j := 1) rfl, ?_⟩
    refine ⟨ca, rfl, ⟨_, sqt hca8⟩, ?_⟩
    refine for_it walk_tup (fun i σ H' => ∃ o6 : Option V, σ = [some (.ref src), some (.ref t), some (.ref d), some (.ref L), o4, some (.ref R), o6, o7] ∧ H' = H8) ⟨none, rfl, rfl⟩ (fun i σ H' _ h => by obtain ⟨_, _, e⟩ := h; rw [e]; exact sqt hca8) ?_ ?_
    · rintro i v σ H9 H9' hi ⟨o6, rfl, rfl⟩ ⟨rfl, hx⟩
      obtain ⟨c, hc, dc⟩ := da_at hxs8 hx
      obtain ⟨pc, rfl, hpc⟩ := ctr_dp dc
      walk_at "rd"
      refine ⟨_, _, _, _, rfl, rfl, hpc, atI_nat (j := 2) rfl, ?_⟩
      walk_at "rd"
      refine ⟨_, _, _, _, true, rfl, .ty "int", .base (.int _), kit_ty (by decide +kernel), ?_⟩
      walk_at "rd"
      refine ⟨_, _, _, _, rfl, rfl, hpc, atI_nat (j := 2) rfl, ?_⟩
      walk_at "rd"
      refine ⟨_, _, _, _, false, rfl, .ty "bool", .base (.int _), kit_ty (by decide +kernel), ?_⟩
      walk_at "rd"
      rfl
    · rintro σ H9 ⟨o6, rfl, rfl⟩
      walk_at "rd"
      exact q _ b8 hA8
end
end K14
namespace K14
local macro_rules | `(tactic| walk_at "rd") => `(tactic| repeat (first | refine ⟨rfl, ?_⟩ | refine ⟨_, rfl, ?_⟩ | refine ⟨_, _, rfl, rfl, ?_⟩ | refine ⟨⟨_, rfl⟩, ?_⟩))
open PySem PySem.Spec PyProof.Rows L2 Bx TL Dx Zx Ow Sup NdefX Px
/-! ### new names -/
abbrev wide : List Str := [Str.ofString "a", Str.ofString "b", Str.ofString "b.c", Str.ofString "c1", Str.ofString "d", Str.ofString "k", Str.ofString "n.m", Str.ofString "q", Str.ofString "x9", Str.ofString "y", Str.ofString "zz"]
def ordI (a b : Nat) : List Str := (List.range 11).map fun k => wide.getD ((a + k * b) % 11) emp
theorem ord_nodup : ∀ a < 11, ∀ b < 11, 1 ≤ b → (ordI a b).Nodup := by decide +kernel
theorem wide_ok : ∀ z ∈ wide, PyData.strOk z = true := by decide +kernel
theorem ord_len (a b : Nat) : (ordI a b).length = 11 := by
  unfold ordI
  rw [List.length_map, List.length_range]
theorem wide_at {j : Nat} (h : j < 11) : wide[j]? = some (wide.getD j emp) := by
  rw [List.getD_eq_getElem?_getD, List.getElem?_eq_getElem (show j < wide.length from h)]
  rfl
theorem ord_in {a b : Nat} {z : Str} (h : z ∈ ordI a b) : z ∈ wide := by
  obtain ⟨k, _, rfl⟩ := List.mem_map.mp h
  exact List.mem_of_getElem? (wide_at (Nat.mod_lt _ (by decide)))
def out (kept l : List Str) : List Str := l.filter fun z => !decide (z ∈ kept)
theorem nd_sub {l m : List Str} (hl : l.Nodup) (h : ∀ x ∈ l, x ∈ m) : l.length ≤ m.length := by
  induction l generalizing m with
  | nil => exact Nat.zero_le _
  | cons a l ih =>
    obtain ⟨h1, h2⟩ := List.nodup_cons.mp hl
    have ha := h a (List.mem_cons_self ..)
    have := ih h2 (m := m.erase a) fun x hx => (List.mem_erase_of_ne fun e => h1 (by rw [← e]; exact hx)).mpr (h x (List.mem_cons_of_mem _ hx))
    rw [List.length_erase_of_mem ha] at this
    have := List.length_pos_of_mem ha
    rw [List.length_cons]
    omega
theorem out_len {kept l : List Str} : (out kept l).length + (l.filter fun z => decide (z ∈ kept)).length = l.length := by
  unfold out
  induction l with
  | nil => rfl
  | cons a l ih =>
    rw [List.filter_cons, List.filter_cons]
    by_cases h : a ∈ kept
    · simp only [h, decide_true, Bool.not_true, Bool.false_eq_true, if_false, if_true, List.length_cons]
      omega
    · simp only [h, decide_false, Bool.not_false, Bool.false_eq_true, if_false, if_true, List.length_cons]
      omega
/-- there are enough free names -/
theorem enough {kept ns od : List Str} (hs : kept.Sublist ns) (nd : ns.Nodup) (n8 : ns.length ≤ 8) (od' : od.Nodup) (l11 : od.length = 11) : (out kept ns).length ≤ (out kept od).length := by
  have e1 := out_len (kept := kept) (l := ns)
  have e2 := out_len (kept := kept) (l := od)
  have h1 : (od.filter fun z => decide (z ∈ kept)).length ≤ kept.length := nd_sub (od'.filter _) fun x hx => by simpa using (List.mem_filter.mp hx).2
  have h2 : kept.length ≤ (ns.filter fun z => decide (z ∈ kept)).length := nd_sub (nd.sublist hs) fun x hx => List.mem_filter.mpr ⟨hs.subset hx, decide_eq_true hx⟩
  omega
def tab (ms fs : List Str) : Tb := (ms.zip fs).filter fun p => decide (p.2 ≠ p.1)
theorem rn_cons {p : Str × Str} {t : Tb} {z : Str} : rn (p :: t) z = if p.1 = z then p.2 else rn t z := by
  unfold rn
  rw [List.find?_cons]
  by_cases e : p.1 = z
  · rw [if_pos e, decide_eq_true e]
    rfl
  · rw [if_neg e, decide_eq_false e]
theorem tab_cons {m f : Str} {ms fs : List Str} {z : Str} (h : z ∉ ms) (e : m = z) : rn (tab (m :: ms) (f :: fs)) z = f := by
  have none : ∀ (ms fs : List Str), z ∉ ms → rn (tab ms fs) z = z := fun ms => by
    induction ms with
    | nil => exact fun fs _ => rfl
    | cons a ms ih =>
      intro fs h
      cases fs with
      | nil => rfl
      | cons b fs =>
        have i1 := ih fs fun e => h (List.mem_cons_of_mem _ e)
        unfold tab at i1 ⊢
        rw [List.zip_cons_cons, List.filter_cons]
        split
        · rw [rn_cons, if_neg fun e => h (by rw [← e]; exact List.mem_cons_self ..)]
          exact i1
        · exact i1
  have i1 := none ms fs h
  unfold tab at i1 ⊢
  rw [List.zip_cons_cons, List.filter_cons]
  split
  · rw [rn_cons, if_pos e]
  · rename_i hf
    have e2 : f = m := by simpa using hf
    rw [i1, e2, e]
theorem tab_skip {m f : Str} {ms fs : List Str} {z : Str} (e : m ≠ z) : rn (tab (m :: ms) (f :: fs)) z = rn (tab ms fs) z := by
  unfold tab
  rw [List.zip_cons_cons, List.filter_cons]
  split
  · rw [rn_cons, if_neg e]
  · rfl
theorem rn_not {z : Str} : ∀ {ms fs : List Str}, z ∉ ms → rn (tab ms fs) z = z
  | [], _, _ => rfl
  | _ :: _, [], _ => rfl
  | m :: ms, f :: fs, h => by
    rw [tab_skip fun e => h (by rw [e]; exact List.mem_cons_self ..)]
    exact rn_not fun e => h (List.mem_cons_of_mem _ e)
theorem rn_at {z y : Str} : ∀ {ms fs : List Str} {k : Nat}, ms.Nodup → ms[k]? = some z → fs[k]? = some y → rn (tab ms fs) z = y
  | m :: ms, f :: fs, 0, nd, h1, h2 => by
    cases h1
    cases h2
    exact tab_cons (List.nodup_cons.mp nd).1 rfl
  | m :: ms, f :: fs, k + 1, nd, h1, h2 => by
    have hz : z ∈ ms := List.mem_of_getElem? h1
    rw [tab_skip fun e => (List.nodup_cons.mp nd).1 (by rw [e]; exact hz)]
    exact rn_at (List.nodup_cons.mp nd).2 h1 h2
  | [], _, k, _, h1, _ => by cases h1
  | _ :: _, [], k, _, _, h2 => by cases h2
/-- the names stay unlike -/
theorem rn_nodup {kept ns fs : List Str} (nd : ns.Nodup) (fnd : fs.Nodup) (fk : ∀ z ∈ fs, z ∉ kept) (len : (out kept ns).length ≤ fs.length) : (ns.map (rn (tab (out kept ns) fs))).Nodup := by
  have mnd : (out kept ns).Nodup := nd.filter _
  have mv : ∀ x ∈ ns, x ∉ kept → ∃ k y, (out kept ns)[k]? = some x ∧ fs[k]? = some y ∧ rn (tab (out kept ns) fs) x = y := fun x hx hk => by
    have hm : x ∈ out kept ns := List.mem_filter.mpr ⟨hx, by simpa using hk⟩
    obtain ⟨k, ek⟩ := List.mem_iff_getElem?.mp hm
    have lk := (List.getElem?_eq_some_iff.mp ek).1
    exact ⟨k, _, ek, List.getElem?_eq_getElem (by omega), rn_at mnd ek (List.getElem?_eq_getElem (by omega))⟩
  have st : ∀ x, x ∈ kept → rn (tab (out kept ns) fs) x = x := fun x hk => rn_not fun e => by
    have := (List.mem_filter.mp e).2
    simp [hk] at this
  unfold List.Nodup
  rw [List.pairwise_map]
  refine List.Pairwise.imp_of_mem (R := fun a b => a ≠ b) (fun {x y} hx hy ne e => ?_) nd
  by_cases kx : x ∈ kept
  · by_cases ky : y ∈ kept
    · rw [st x kx, st y ky] at e
      exact ne e
    · obtain ⟨k, y', _, h2, h3⟩ := mv y hy ky
      rw [st x kx, h3] at e
      exact fk y' (List.mem_of_getElem? h2) (by rw [← e]; exact kx)
  · obtain ⟨k, x', h1, h2, h3⟩ := mv x hx kx
    by_cases ky : y ∈ kept
    · rw [st y ky, h3] at e
      exact fk x' (List.mem_of_getElem? h2) (by rw [e]; exact ky)
    · obtain ⟨j, y', g1, g2, g3⟩ := mv y hy ky
      rw [h3, g3] at e
      rw [e] at h2
      obtain ⟨l1, e1⟩ := List.getElem?_eq_some_iff.mp h2
      obtain ⟨l2, e2⟩ := List.getElem?_eq_some_iff.mp g2
      have ej : k = j := by
        rcases Nat.lt_trichotomy k j with c | c | c
        · exact absurd (e1.trans e2.symm) (List.pairwise_iff_getElem.mp fnd k j l1 l2 c)
        · exact c
        · exact absurd (e2.trans e1.symm) (List.pairwise_iff_getElem.mp fnd j k l2 l1 c)
      rw [ej, g1] at h1
      exact ne (Option.some.inj h1).symm
theorem rn_ok {z : Str} : ∀ {t : Tb}, PyData.strOk z = true → (∀ p ∈ t, PyData.strOk p.2 = true) → PyData.strOk (rn t z) = true
  | [], h, _ => h
  | p :: t, h, g => by
    rw [rn_cons]
    split
    · exact g p (List.mem_cons_self ..)
    · exact rn_ok h fun q hq => g q (List.mem_cons_of_mem _ hq)
theorem tab_ok {ms fs : List Str} (h : ∀ z ∈ fs, PyData.strOk z = true) : ∀ p ∈ tab ms fs, PyData.strOk p.2 = true := fun p hp => h _ (List.of_mem_zip (List.mem_filter.mp hp).1).2
theorem tab_keys {ms fs : List Str} {z : Str} (h : z ∈ (tab ms fs).map (·.1)) : z ∈ ms := by
  obtain ⟨p, hp, rfl⟩ := List.mem_map.mp h
  exact (List.of_mem_zip (List.mem_filter.mp hp).1).1
theorem zip_take : ∀ (l m : List Str) (n : Nat), (l.take n).zip (m.take n) = (l.zip m).take n
  | [], _, _ => by simp
  | _ :: _, [], _ => by simp
  | a :: l, b :: m, 0 => rfl
  | a :: l, b :: m, n + 1 => by
    show (a, b) :: (l.take n).zip (m.take n) = (a, b) :: (l.zip m).take n
    rw [zip_take l m n]
theorem tab_succ {ms fs : List Str} {k : Nat} {m f : Str} (h1 : ms[k]? = some m) (h2 : fs[k]? = some f) : tab (ms.take (k + 1)) (fs.take (k + 1)) = tab (ms.take k) (fs.take k) ++ (if f ≠ m then [(m, f)] else []) := by
  have ez : (ms.zip fs)[k]? = some (m, f) := List.getElem?_zip_eq_some.mpr ⟨h1, h2⟩
  have e : (ms.take (k + 1)).zip (fs.take (k + 1)) = (ms.take k).zip (fs.take k) ++ [(m, f)] := by
    rw [zip_take, zip_take, List.take_add_one, ez]
    rfl
  unfold tab
  rw [e, List.filter_append]
  congr 1
  by_cases c : f = m
  · rw [List.filter_cons, if_neg (by simpa using c), if_neg (by simpa using c), List.filter_nil]
  · rw [List.filter_cons, if_pos (by simpa using c), if_pos c, List.filter_nil]
theorem put_tb {t : Tb} {m f : Str} (h : m ∉ t.map (·.1)) : putK (tbV t) (.inr m) (.str f) = tbV (t ++ [(m, f)]) := by
  unfold putK
  have e : ((tbV t).any fun kv => decide (kv.1 = .inr m)) = false := by
    rw [List.any_eq_false]
    intro kv hk
    unfold tbV at hk
    obtain ⟨p, hp, rfl⟩ := List.mem_map.mp hk
    simp only [decide_eq_true_eq]
    intro e
    exact h (List.mem_map.mpr ⟨p, hp, Sum.inr.inj e⟩)
  rw [e]
  show tbV t ++ [(.inr m, .str f)] = _
  unfold tbV
  rw [List.map_append]
  rfl
end K14
namespace K14
local macro_rules | `(tactic| walk_at "rd") => `(tactic| repeat (first | refine ⟨rfl, ?_⟩ | refine ⟨_, rfl, ?_⟩ | refine ⟨_, _, rfl, rfl, ?_⟩ | refine ⟨⟨_, rfl⟩, ?_⟩))
open PySem PySem.Spec PyProof.Rows L2 Bx TL Dx Zx Ow Sup NdefX Px
section
variable {P : Program} {w : World} {K : PySem.W.Frag} {mg : Str → Option Value} {base : Heap}
theorem src_dk {H : Hp} {s p : Addr} {u : HO} (hA : Src H s) (hp : H p = none) : s ≠ p := src_ne hA hp
/-- [z for z in xs if z not in kept] -/
theorem out_take {kept l : List Str} {i : Nat} {z : Str} (h : l[i]? = some z) : out kept (l.take (i + 1)) = out kept (l.take i) ++ (if (!decide (z ∈ kept)) = true then [z] else []) := by
  unfold out
  rw [List.take_add_one, h, List.filter_append]
  congr 1
  show [z].filter _ = _
  by_cases c : (!decide (z ∈ kept)) = true
  · rw [List.filter_cons, if_pos c, if_pos c, List.filter_nil]
  · rw [List.filter_cons, if_neg c, if_neg c, List.filter_nil]
def strF (t : Tb) (z : Str) : PyData := .str (rn t z)
theorem tab_nd : ∀ {ms fs : List Str}, ms.Nodup → ((tab ms fs).map (·.1)).Nodup
  | [], _, _ => List.nodup_nil
  | _ :: _, [], _ => List.nodup_nil
  | m :: ms, f :: fs, h => by
    obtain ⟨h1, h2⟩ := List.nodup_cons.mp h
    have ih := tab_nd (fs := fs) h2
    have hk : m ∉ (tab ms fs).map (·.1) := fun e => h1 (tab_keys e)
    unfold tab at ih hk ⊢
    rw [List.zip_cons_cons, List.filter_cons]
    split
    · rw [List.map_cons]
      exact List.nodup_cons.mpr ⟨hk, ih⟩
    · exact ih
@[irreducible] def spThR (K : PySem.W.Frag) : Sp := fun vs H Q _ => ∃ (s T na ca : Addr) (xs : List V) (ns : List Str) (cs : List Ctr), vs = [.ref s, .ref T] ∧ Src H s ∧ Th K H T na ca xs ns cs ∧ Ok8 ns ∧ cs.length ≤ 8 ∧ InPl ns cs ∧ ∀ H', SameBut s H H' → Src H' s → Q (.bl true) H'
set_option maxHeartbeats 8000000 in
theorem ok_rename_right {C : Addr} {f : Addr} {fd : FuncData} (F : Fun K "_law_rename_right" "_law_rename_right" s__law_rename_right f fd) (m_range : mg "range" = none) (m_sorted : mg "sorted" = none) (m_len : mg "len" = none) (m_int : mg "int" = none) (m_tuple : mg "tuple" = none) (B_Steps : Mk0.Bare K mg "Steps" C) (C__law_draw : CDraw P w K mg base)
    (C__law_some : Cal P w K mg base "_law_some" 2 ["_law_source_here", "_law_names", "_law_most"] (spSome K)) (M_rename : MthC P w K mg base C "rename" 2 ["self", "theory", "table"] (spRename K)) : FnOk P w K mg base CX0 4 f fd ["_law_source_here", "_law_theory_here"] (spThR K) := by
  refine F.ok sc__law_rename_right (fun vs H Q E h => ?_) (fun cdv A outer s H vs Q E hr h => ?_)
  · unfold spThR at h
    obtain ⟨s, T, na, ca, xs, ns, cs, rfl, _⟩ := h
    rfl
  · unfold spThR at h
    obtain ⟨src, T, na, ca, xs, ns, cs, rfl, hA, th, o8, hcl, hin, q⟩ := h
    have hu := hu_of hr
    refine ⟨_, (pss_cons (ps_set (i := 2) sc__law_rename_right.nd rfl (Or.inr rfl) (pe_cal C__law_some (hr.mono (by decide)) (pa_cons (pv 0) (pa_cons (pe_ix ix_tup (pv 1) pe_int (fun _ _ => rfl)) (pa_cons pe_int pa_nil)))))
    (pss_cons (ps_set (i := 3) sc__law_rename_right.nd rfl (Or.inr rfl) (pe_lst (pa_cons pe_str (pa_cons pe_str (pa_cons pe_str (pa_cons pe_str (pa_cons pe_str (pa_cons pe_str (pa_cons pe_str (pa_cons pe_str (pa_cons pe_str (pa_cons pe_str (pa_cons pe_str pa_nil)))))))))))))
    (pss_cons (ps_set (i := 4) sc__law_rename_right.nd rfl (Or.inr rfl) (pe_cal C__law_draw (hr.mono (by decide)) (pa_cons (pv 0) (pa_cons pe_int pa_nil))))
    (pss_cons (ps_set (i := 5) sc__law_rename_right.nd rfl (Or.inr rfl) (pe_op op_add pe_int (pe_cal C__law_draw (hr.mono (by decide)) (pa_cons (pv 0) (pa_cons pe_int pa_nil)))))
    (pss_cons (ps_setLc (i := 6) (own := [("_law_k", 10)]) (tt := tYes) rfl sc__law_rename_right.nd rfl rfl (sw_true rfl rfl rfl (by decide +kernel)) (pi_range1 (by rfl) m_range (pa_cons pe_int pa_nil)) (blkOk_by (N := n__law_rename_right) (sc := defScope s__law_rename_right) (by decide +kernel)) (fun _ _ _ _ _ => pg_name (i := 10) sc__law_rename_right.nd rfl (Or.inl rfl)) (fun _ _ _ _ _ => pts_nil) (fun _ _ _ _ _ => (pe_ix (ix_listK (K := K) rfl) (pv 3) (pe_op op_mod (pe_callTy (T := "int") call_int1 (by rfl) m_int (by decide +kernel) (pa_cons (pe_op op_add (pv 4) (pe_op op_mul (pv 10) (pv 5))) pa_nil)) pe_int) (fun _ _ => rfl))))
    (pss_cons (ps_setLc (i := 7) (own := [("_law_name", 14)]) rfl sc__law_rename_right.nd rfl rfl (sw_true rfl rfl rfl (by decide +kernel)) (pi_list (pv 6)) (blkOk_by (N := n__law_rename_right) (sc := defScope s__law_rename_right) (by decide +kernel)) (fun _ _ _ _ _ => pg_name (i := 14) sc__law_rename_right.nd rfl (Or.inl rfl)) (fun _ _ _ _ _ => pts_one (pt_cmpR (op_notIn_seqK (K := K) rfl) (pv 14) (pv 2) (by rfl))) (fun _ _ _ _ _ => (pv 14)))
    (pss_cons (ps_set (i := 8) sc__law_rename_right.nd rfl (Or.inr rfl) pe_dnewK)
    (pss_cons (ps_setLc (i := 9) (own := [("_law_name", 14)]) rfl sc__law_rename_right.nd rfl rfl (sw_true rfl rfl rfl (by decide +kernel)) (pi_tup (pe_ix ix_tup (pv 1) pe_int (fun _ _ => rfl))) (blkOk_by (N := n__law_rename_right) (sc := defScope s__law_rename_right) (by decide +kernel)) (fun _ _ _ _ _ => pg_name (i := 14) sc__law_rename_right.nd rfl (Or.inl rfl)) (fun _ _ _ _ _ => pts_one (pt_cmpR (op_notIn_seqK (K := K) rfl) (pv 14) (pv 2) (by rfl))) (fun _ _ _ _ _ => (pv 14)))
    (pss_cons (ps_for PassesOwn.never rfl (pi_range1 (by rfl) m_range (pa_cons (pe_callB call_len_seq (by rfl) m_len PySem.boot_len (pa_cons (pv 9) pa_nil)) pa_nil)) (pg_name (i := 10) sc__law_rename_right.nd rfl (Or.inl rfl))
      (pss_one (ps_if (pt_cmpR op_ne (pe_ix ix_list (pv 7) (pv 10) (fun _ _ => rfl)) (pe_ix ix_list (pv 9) (pv 10) (fun _ _ => rfl)) (nomark _))
      (pss_one (ps_dput hu (pv 8) (pe_ix ix_list (pv 9) (pv 10) (fun _ _ => rfl)) (pe_ix ix_list (pv 7) (pv 10) (fun _ _ => rfl)) rfl))
      pss_nil)))
    (pss_cons (ps_setLc (i := 11) (own := [("_law_name", 14)]) (tt := tYes) rfl sc__law_rename_right.nd rfl rfl (sw_true rfl rfl rfl (by decide +kernel)) (pi_list (pe_callB (id := "sorted") (call_sortedD rfl) (by rfl) m_sorted (by decide +kernel) (pa_cons (pv 8) pa_nil))) (blkOk_by (N := n__law_rename_right) (sc := defScope s__law_rename_right) (by decide +kernel)) (fun _ _ _ _ _ => pg_name (i := 14) sc__law_rename_right.nd rfl (Or.inl rfl)) (fun _ _ _ _ _ => pts_nil) (fun _ _ _ _ _ => (pe_tup (pa_cons (pv 14) (pa_cons (pe_dget hu (pv 8) (pv 14) (fun _ _ => rfl)) pa_nil)))))
    (pss_cons (ps_set (i := 12) sc__law_rename_right.nd rfl (Or.inl rfl) (pe_callB (id := "sorted") cr_sortedS (by rfl) m_sorted (by decide +kernel) (pa_cons (pe_lc (own := [("_law_name", 14)]) (tt := tYes) rfl sc__law_rename_right.nd (pi_tup (pe_ix ix_tup (pv 1) pe_int (fun _ _ => rfl))) (blkOk_by (N := n__law_rename_right) (sc := defScope s__law_rename_right) (by decide +kernel)) (fun _ _ _ _ _ => pg_name (i := 14) sc__law_rename_right.nd rfl (Or.inl rfl)) (fun _ _ _ _ _ => pts_nil) (fun _ _ _ _ _ => (pe_dget2 hu (pv 8) (pv 14) (pv 14) ⟨rfl, rfl, rfl, rfl⟩))) pa_nil)))
    (pss_cons (ps_setLc (i := 13) (own := [("_law_c", 15)]) (tt := tYes) rfl sc__law_rename_right.nd rfl rfl (sw_true rfl rfl rfl (by decide +kernel)) (pi_tup (pe_ix ix_tup (pv 1) pe_int (fun _ _ => rfl))) (blkOk_by (N := n__law_rename_right) (sc := defScope s__law_rename_right) (by decide +kernel)) (fun _ _ _ _ _ => pg_name (i := 15) sc__law_rename_right.nd rfl (Or.inl rfl)) (fun _ _ _ _ _ => pts_nil) (fun _ _ _ _ _ => (pe_tup (pa_cons (pe_dget2 hu (pv 8) (pe_ix (ix_tupK (K := K) rfl) (pv 15) pe_int (fun _ _ => rfl)) (pe_ix (ix_tupK (K := K) rfl) (pv 15) pe_int (fun _ _ => rfl)) ⟨rfl, rfl, rfl, rfl⟩) (pa_cons (pe_dget2 hu (pv 8) (pe_ix (ix_tupK (K := K) rfl) (pv 15) pe_int (fun _ _ => rfl)) (pe_ix (ix_tupK (K := K) rfl) (pv 15) pe_int (fun _ _ => rfl)) ⟨rfl, rfl, rfl, rfl⟩) (pa_cons (pe_ix (ix_tupK (K := K) rfl) (pv 15) pe_int (fun _ _ => rfl)) pa_nil))))))
    (pss_cons (ps_if (pt_cmpR (op_neD hr.units) (pe_mth M_rename (hr.mono (by decide)) (Mk0.pe_bare B_Steps) (pa_cons (pv 1) (pa_cons (pv 8) pa_nil)) (ht := mcall_of (abase_call (by decide +kernel)) (fun _ => rfl))) (pe_tup (pa_cons (pe_callTy (T := "tuple") call_tuple_of (by rfl) m_tuple (by decide +kernel) (pa_cons (pv 12) pa_nil)) (pa_cons (pe_callTy (T := "tuple") call_tuple_of (by rfl) m_tuple (by decide +kernel) (pa_cons (pv 13) pa_nil)) pa_nil))) (nomark _))
      (pss_one (ps_ret pe_bl))
      pss_nil)
    (pss_one (ps_ret (pe_cmpR (op_eqD hr.units) (pe_lc (own := [("_law_name", 14)]) (tt := tYes) rfl sc__law_rename_right.nd (pi_list (pe_callB (id := "sorted") (call_sortedD rfl) (by rfl) m_sorted (by decide +kernel) (pa_cons (pv 8) pa_nil))) (blkOk_by (N := n__law_rename_right) (sc := defScope s__law_rename_right) (by decide +kernel)) (fun _ _ _ _ _ => pg_name (i := 14) sc__law_rename_right.nd rfl (Or.inl rfl)) (fun _ _ _ _ _ => pts_nil) (fun _ _ _ _ _ => (pe_tup (pa_cons (pv 14) (pa_cons (pe_dget hu (pv 8) (pv 14) (fun _ _ => rfl)) pa_nil))))) (pv 11) (nomark _))))))))))))))))), ?_⟩
    walk_at "rd"
    refine ⟨_, _, _, _, rfl, rfl, th.t, atI_nat (j := 0) rfl, ?_⟩
    walk_at "rd"
    show spSome K _ _ _ _
    unfold spSome
    refine ⟨src, na, ns, 2, rfl, hA, .inr th.n, by have := o8.len; omega, by decide, fun kp kept H1 s1 hA1 nkp hkp hk8 hks => ?_⟩
    have nkps : kp ≠ src := fun e => by rw [e] at nkp; exact (src_ne hA nkp) rfl
    have th1 := th.but hA s1
    walk_at "rd"
    refine ⟨sz (by show 11 ≤ 100000; decide), fun W nW => ?_⟩
    have u1 := same_new nW (o := .lst (wide.map V.str))
    have hW := upd_same (H := H1) (a := W) (o := .lst (wide.map V.str))
    have nWs := (src_ne hA1 nW).symm
    have hA2 := src_same hA1 u1
    have b2 := s1.trans (Bx.Same.but u1)
    have th2 := th1.same u1
    have hkp2 := u1 _ _ hkp
    change tSeq _ _ _ _ (upd H1 W (.lst (wide.map V.str)))
    generalize upd H1 W (.lst (wide.map V.str)) = H2 at hW hA2 b2 th2 hkp2 ⊢
    clear u1 th1 hA1 nW hkp
    walk_at "rd"
    refine draw_of hA2 ⟨by decide, by decide⟩ fun a H3 a0 a1 s3 hA3 => ?_
    have b3 := b2.trans s3
    have th3 := th2.but hA2 s3
    have hW3 := s3 _ _ nWs hW
    have hkp3 := s3 _ _ nkps hkp2
    walk_at "rd"
    refine draw_of hA3 ⟨by decide, by decide⟩ fun b H4 b0 b1 s4 hA4 => ?_
    have b4 := b3.trans s4
    have th4 := th3.but hA3 s4
    have hW4 := s4 _ _ nWs hW3
    have hkp4 := s4 _ _ nkps hkp3
    obtain ⟨a, rfl⟩ := Int.eq_ofNat_of_zero_le a0
    obtain ⟨b, rfl⟩ := Int.eq_ofNat_of_zero_le b0
    clear s1 s3 s4 b2 b3 th2 th3 hW hW3 hkp2 hkp3 hA2 hA3
    walk_at "rd"
    refine ⟨by decide, by decide, fun D hD => ?_⟩
    have nDs := (src_ne hA4 hD).symm
    have nWD : W ≠ D := ne_of_none hW4 hD
    refine lc_it walk_range (fun i H' => H' = upd H4 D (.lst (((ordI a (1 + b)).take i).map V.str))) rfl (fun _ _ _ _ => trivial) ?_ ?_
    · rintro i v H5 H6 hi rfl ⟨rfl, rfl⟩
      have hi : i < 11 := hi
      refine ⟨rfl, ?_⟩
      walk_at "rd"
      refine ⟨.inl ⟨by omega, by omega⟩, ?_⟩
      walk_at "rd"
      refine .inl ⟨_, rfl, ?_⟩
      walk_at "rd"
      refine ⟨by show (0 : Int) < 11; decide, ?_⟩
      walk_at "rd"
      have ei : ((a : Int) + (0 + (i : Int)) * (1 + (b : Int))) % 11 = (((a + i * (1 + b)) % 11 : Nat) : Int) := by
        rw [Int.zero_add]
        push_cast
        rfl
      have eo : (ordI a (1 + b))[i]? = some (wide.getD ((a + i * (1 + b)) % 11) emp) := by
        unfold ordI
        rw [List.getElem?_map, List.getElem?_range hi]
        rfl
      have ew : atI (wide.map V.str) (((a + i * (1 + b)) % 11 : Nat) : Int) = some (V.str (wide.getD ((a + i * (1 + b)) % 11) emp)) := atI_nat (by rw [List.getElem?_map, wide_at (Nat.mod_lt _ (by decide))]; rfl)
      show rIxL K (V.ref W) (V.int (((a : Int) + (0 + (i : Int)) * (1 + (b : Int))) % 11)) _ _
      rw [ei]
      refine ⟨_, _, _, _, rfl, rfl, sq (by rw [upd_ne nWD]; exact hW4), ew, ?_⟩
      refine ⟨_, upd_same, ?_, ?_⟩
      · rw [List.length_map]
        exact szl (Nat.lt_of_le_of_lt (List.length_take_le' i _) (by rw [ord_len]; decide))
      · rw [upd_upd, List.take_add_one, eo, List.map_append]
        rfl
    rintro H5 rfl
    have ond := ord_nodup a (by omega) (1 + b) (by omega) (by omega)
    have olen := ord_len a (1 + b)
    have oin : ∀ z ∈ ordI a (1 + b), PyData.strOk z = true := fun z hz => wide_ok z (ord_in hz)
    rw [show ((11 : Int).toNat) = (ordI a (1 + b)).length by rw [olen]; rfl, List.take_length]
    generalize ordI a (1 + b) = od at ond olen oin ⊢
    have u5 := same_new hD (o := .lst (od.map V.str))
    have hOd := upd_same (H := H4) (a := D) (o := .lst (od.map V.str))
    have hA5 := src_same hA4 u5
    have b5 := b4.trans (Bx.Same.but u5)
    have th5 := th4.same u5
    have hkp5 := u5 _ _ hkp4
    generalize upd H4 D (.lst (od.map V.str)) = H5 at hOd hA5 b5 th5 hkp5 ⊢
    clear u5 th4 hW4 hkp4 b4 hA4 nWD nWs hD
    walk_at "rd"
    refine ⟨⟨_, sq hOd⟩, fun D7 n7 => ?_⟩
    have nOd7 : D ≠ D7 := ne_of_none hOd n7
    have nkp7 : kp ≠ D7 := ne_of_none hkp5 n7
    have n7s := (src_ne hA5 n7).symm
    refine lc_it walk_list (fun i H' => H' = upd H5 D7 (.lst ((out kept (od.take i)).map V.str))) rfl (fun i H' _ e => by rw [e]; exact sq (by rw [upd_ne nOd7]; exact hOd)) ?_ ?_
    · rintro i v H6 H7 hi rfl ⟨rfl, hx⟩
      obtain ⟨z, hz, rfl⟩ := at_map hx
      refine ⟨rfl, ?_⟩
      walk_at "rd"
      refine ⟨kp, _, rfl, .inl (sq (by rw [upd_ne nkp7]; exact hkp5)), rfl, flat_strs kept, ?_⟩
      rw [inV_str]
      walk_at "rd"
      refine ite2 (fun h6 => ?_) (fun h6 => ?_)
      · have h6' : (!decide (z ∈ kept)) = true := h6
        walk_at "rd"
        refine ⟨_, upd_same, ?_, ?_⟩
        · rw [List.length_map]
          exact szl (Nat.lt_of_le_of_lt (Nat.le_trans (List.length_filter_le _ _) (List.length_take_le' i _)) (by rw [olen]; decide))
        · rw [upd_upd, out_take hz, if_pos h6', List.map_append]
          rfl
      · have h6' : ¬ (!decide (z ∈ kept)) = true := h6
        show upd H5 D7 _ = upd H5 D7 _
        rw [out_take hz, if_neg h6', List.append_nil]
    rintro H6 rfl
    rw [List.length_map, List.take_length]
    have fnd : (out kept od).Nodup := ond.filter _
    have ffk : ∀ z ∈ out kept od, z ∉ kept := fun z hz => by simpa using (List.mem_filter.mp hz).2
    have fok : ∀ z ∈ out kept od, PyData.strOk z = true := fun z hz => oin z (List.mem_filter.mp hz).1
    have fen : (out kept ns).length ≤ (out kept od).length := enough hks o8.nd o8.len ond olen
    have fl11 : (out kept od).length ≤ 11 := by rw [← olen]; exact List.length_filter_le _ _
    generalize out kept od = fr at fnd ffk fok fen fl11 ⊢
    have u6 := same_new n7 (o := .lst (fr.map V.str))
    have h7 := upd_same (H := H5) (a := D7) (o := .lst (fr.map V.str))
    have hA6 := src_same hA5 u6
    have b6 := b5.trans (Bx.Same.but u6)
    have th6 := th5.same u6
    have hkp6 := u6 _ _ hkp5
    generalize upd H5 D7 (.lst (fr.map V.str)) = H6 at h7 hA6 b6 th6 hkp6 ⊢
    clear u6 th5 hkp5 b5 hA5 hOd n7 nOd7 nkp7
    walk_at "rd"
    refine fun d nd => ?_
    have nds := src_ne hA6 nd
    have ndH : H d = none := but_free b6 nds.symm nd
    have n7d : D7 ≠ d := ne_of_none h7 nd
    have u7 := same_new nd (o := .dK [])
    have hd7 := upd_same (H := H6) (a := d) (o := .dK [])
    have hA7 := src_same hA6 u7
    have b7 := b6.trans (Bx.Same.but u7)
    have th7 := th6.same u7
    have hkp7 := u7 _ _ hkp6
    have h77 := u7 _ _ h7
    generalize upd H6 d (.dK []) = H7 at hd7 hA7 b7 th7 hkp7 h77 ⊢
    clear u7 th6 hkp6 b6 hA6 nd h7
    walk_at "rd"
    refine ⟨_, _, _, _, rfl, rfl, th7.t, atI_nat (j := 0) rfl, ?_⟩
    refine ⟨na, rfl, ⟨_, th7.n⟩, fun D9 n9 => ?_⟩
    have nd9 : d ≠ D9 := ne_of_none hd7 n9
    have n79 : D7 ≠ D9 := ne_of_none h77 n9
    have nkp9 : kp ≠ D9 := ne_of_none hkp7 n9
    refine lc_it walk_tup (fun i H' => H' = upd H7 D9 (.lst ((out kept (ns.take i)).map V.str))) rfl (fun i H' _ e => by rw [e]; exact Bx.Same.tup (same_new n9) th7.n) ?_ ?_
    · rintro i v H8 H9 hi rfl ⟨rfl, hx⟩
      obtain ⟨z, hz, rfl⟩ := at_map hx
      refine ⟨rfl, ?_⟩
      walk_at "rd"
      refine ⟨kp, _, rfl, .inl (sq (by rw [upd_ne nkp9]; exact hkp7)), rfl, flat_strs kept, ?_⟩
      rw [inV_str]
      walk_at "rd"
      refine ite2 (fun h6 => ?_) (fun h6 => ?_)
      · have h6' : (!decide (z ∈ kept)) = true := h6
        walk_at "rd"
        refine ⟨_, upd_same, ?_, ?_⟩
        · rw [List.length_map]
          exact szl (Nat.lt_of_le_of_lt (Nat.le_trans (List.length_filter_le _ _) (List.length_take_le' i _)) (by have := o8.len; omega))
        · rw [upd_upd, out_take hz, if_pos h6', List.map_append]
          rfl
      · have h6' : ¬ (!decide (z ∈ kept)) = true := h6
        show upd H7 D9 _ = upd H7 D9 _
        rw [out_take hz, if_neg h6', List.append_nil]
    rintro H8 rfl
    rw [List.length_map, List.take_length]
    have mnd : (out kept ns).Nodup := o8.nd.filter _
    have mok : ∀ z ∈ out kept ns, PyData.strOk z = true := fun z hz => o8.ok z (List.mem_filter.mp hz).1
    have ml8 : (out kept ns).length ≤ 8 := Nat.le_trans (List.length_filter_le _ _) o8.len
    have rnd := rn_nodup (kept := kept) (ns := ns) (fs := fr.take (out kept ns).length) o8.nd (fnd.sublist (List.take_sublist _ _)) (fun z hz => ffk z ((List.take_sublist _ _).subset hz)) (by rw [List.length_take]; omega)
    have u8 := same_new n9 (o := .lst ((out kept ns).map V.str))
    have h9 := upd_same (H := H7) (a := D9) (o := .lst ((out kept ns).map V.str))
    have hA8 := src_same hA7 u8
    have b8 := b7.trans (Bx.Same.but u8)
    have th8 := th7.same u8
    have hd8 := u8 _ _ hd7
    have h78 := u8 _ _ h77
    generalize upd H7 D9 (.lst ((out kept ns).map V.str)) = H8 at h9 hA8 b8 th8 hd8 h78 ⊢
    generalize out kept ns = mv at mnd mok ml8 rnd fen h9 ⊢
    clear u8 th7 hkp7 b7 hA7 hd7 h77 n9
    walk_at "rd"
    refine ⟨_, _, rfl, .inl (sq h9), ?_⟩
    rw [List.length_map]
    walk_at "rd"
    refine ⟨by omega, by omega, ?_⟩
    refine for_it walk_range (fun i σ H' => ∃ o10 : Option V, σ = [some (.ref src), some (.ref T), some (.ref kp), some (.ref W), some (.int a), some (.int (1 + (b : Int))), some (.ref D), some (.ref D7), some (.ref d), some (.ref D9), o10, none, none, none, none, none] ∧ H' = upd H8 d (.dK (tbV (tab (mv.take i) (fr.take i)))))
      ⟨none, rfl, by
        funext c
        by_cases hc : c = d
        · rw [hc, upd_same]
          exact hd8
        · rw [upd_ne hc]⟩ (fun _ _ _ _ _ => trivial) ?_ ?_
    · rintro i v σ H9 H9' hi ⟨o10, rfl, rfl⟩ ⟨rfl, rfl⟩
      have hi : i < mv.length := by omega
      obtain ⟨m, em⟩ : ∃ m, mv[i]? = some m := ⟨_, List.getElem?_eq_getElem hi⟩
      obtain ⟨y, ey⟩ : ∃ y, fr[i]? = some y := ⟨_, List.getElem?_eq_getElem (by omega)⟩
      have am : atI (mv.map V.str) (0 + (i : Int)) = some (V.str m) := by
        rw [Int.zero_add]
        exact atI_nat (by rw [List.getElem?_map, em]; rfl)
      have ay : atI (fr.map V.str) (0 + (i : Int)) = some (V.str y) := by
        rw [Int.zero_add]
        exact atI_nat (by rw [List.getElem?_map, ey]; rfl)
      have g7 : (upd H8 d (.dK (tbV (tab (mv.take i) (fr.take i))))) D7 = some (.lst (fr.map V.str)) := by rw [upd_ne n7d]; exact h78
      have g9 : (upd H8 d (.dK (tbV (tab (mv.take i) (fr.take i))))) D9 = some (.lst (mv.map V.str)) := by rw [upd_ne nd9.symm]; exact h9
      have zl : m ∉ (tab (mv.take i) (fr.take i)).map (·.1) := fun hm => by
        have := tab_keys hm
        obtain ⟨j, hj⟩ := List.mem_iff_getElem?.mp this
        rw [List.getElem?_take] at hj
        split at hj
        · rename_i hlt
          obtain ⟨l1, e1⟩ := List.getElem?_eq_some_iff.mp em
          obtain ⟨l2, e2⟩ := List.getElem?_eq_some_iff.mp hj
          exact List.pairwise_iff_getElem.mp mnd j i l2 l1 hlt (e2.trans e1.symm)
        · cases hj
      have tl : (tbV (tab (mv.take i) (fr.take i))).length < 100000 := by
        unfold tbV tab
        rw [List.length_map]
        refine Nat.lt_of_le_of_lt (List.length_filter_le _ _) ?_
        rw [List.length_zip, List.length_take, List.length_take]
        omega
      walk_at "rd"
      refine ⟨_, _, _, _, rfl, rfl, sq g7, ay, ?_⟩
      walk_at "rd"
      refine ⟨_, _, _, _, rfl, rfl, sq g9, am, ?_⟩
      walk_at "rd"
      rw [ne_str]
      refine ite2 (fun h6 => ?_) (fun h6 => ?_)
      · have h6' : y ≠ m := of_decide_eq_true h6
        walk_at "rd"
        refine ⟨_, _, _, _, rfl, rfl, sq g7, ay, ?_⟩
        walk_at "rd"
        refine ⟨_, _, _, _, rfl, rfl, sq g9, am, ?_⟩
        refine ⟨d, _, rfl, DPut.k (k := .inr m) upd_same (szl tl), ?_⟩
        rw [put_tb zl, upd_upd]
        refine ⟨_, rfl, ?_⟩
        rw [tab_succ em ey, if_pos h6']
      · have h6' : ¬ y ≠ m := fun e => h6 (decide_eq_true e)
        refine ⟨_, rfl, ?_⟩
        rw [tab_succ em ey, if_neg h6', List.append_nil]
    rintro σ H9 ⟨o10, rfl, rfl⟩
    rw [show ((mv.length : Int).toNat) = mv.length by omega, List.take_length]
    have tok := tab_ok (ms := mv) (fs := fr.take mv.length) (fun z hz => fok z ((List.take_sublist _ _).subset hz))
    have tki : ∀ z ∈ (tab mv (fr.take mv.length)).map (·.1), PyData.strOk z = true := fun z hz => mok z (tab_keys hz)
    have tnd : ((tab mv (fr.take mv.length)).map (·.1)).Nodup := tab_nd mnd
    have tlen : (tab mv (fr.take mv.length)).length ≤ 8 := by
      unfold tab
      refine Nat.le_trans (List.length_filter_le _ _) ?_
      rw [List.length_zip, List.length_take]
      omega
    generalize tab mv (fr.take mv.length) = t at rnd tok tki tnd tlen ⊢
    have hd9 := upd_same (H := H8) (a := d) (o := .dK (tbV t))
    have b9 : SameBut src H (upd H8 d (.dK (tbV t))) := but_at ndH b8
    have hA9 : Src (upd H8 d (.dK (tbV t))) src := src_upd hA8 nds
    have tk9 : Tk K H8 (upd H8 d (.dK (tbV t))) := tk_dk hd8
    have th9 : Th K (upd H8 d (.dK (tbV t))) T na ca xs ns cs := ⟨tk9 _ _ th8.t, tk9 _ _ th8.n, tk9 _ _ th8.c, da_tk tk9 _ _ (tup_ctr _) th8.d⟩
    generalize upd H8 d (.dK (tbV t)) = H9 at hd9 b9 hA9 th9 ⊢
    clear tk9 b8 hA8 th8 hd8 h78 h9 fen fl11 mnd ml8 fnd ffk fok n79 nkp9 nd9 n7d n7s nds ndH
    have key : (tbV t).map (·.1) = (t.map (·.1)).map Sum.inr := keys_tb t
    have k64 : (t.map (·.1)).length < 64 := by rw [List.length_map]; omega
    have hv : ∀ z ∈ t.map (·.1), valV (tbV t) (.inr z) = some (.str (rn t z)) := fun z hz => has_tb hz
    dsimp only
    refine set_gi (te := tLc _ _ _ _ _) (i := 11) (fun v H' => ∃ (D : Addr) (us : List V) (ys : List Str), v = .ref D ∧ Same H9 H' ∧ H9 D = none ∧ H' D = some (.lst us) ∧ DpAll K H' us (prs (strF t) ys) ∧ ys.Perm (t.map (·.1)) ∧ sortedS ys = true) (fun Z hZ => ?_) (fun v H10 => ?_)
    · refine pairs_lc (a := 8) (g := fun z => .str (rn t z)) (f := strF t) (by show 14 < 16; decide) (by decide) rfl hd9 k64 hv (fun z H' => .str _) (fun z => rfl) (fun R hR => ?_) (fun D H' us ys s h1 h0 h2 pm st => ?_)
      · walk_at "rd"
        exact ⟨d, _, _, rfl, .inl hd9, key, k64, fun ys p pm st np => hR p _ ys (same_new np) upd_same pm st⟩
      · exact hZ _ _ ⟨D, us, ys, rfl, s, h0, h1, h2, pm, st⟩
    rintro ⟨D11, us, ys, rfl, s10, n11, h11, hda, pm, st⟩
    have hd10 := s10 _ _ hd9
    have th10 := th9.same s10
    have b10 := b9.trans (Bx.Same.but s10)
    have hA10 := src_same hA9 s10
    clear s10 n11 hd9 th9 b9 hA9
    walk_at "rd"
    refine ⟨_, _, _, _, rfl, rfl, th10.t, atI_nat (j := 0) rfl, ?_⟩
    refine ⟨na, rfl, ⟨_, th10.n⟩, fun D12 n12 => ?_⟩
    have nd12 : d ≠ D12 := ne_of_none hd10 n12
    refine lc_it walk_tup (fun i H' => H' = upd H10 D12 (.lst (((ns.take i).map (rn t)).map V.str))) rfl (fun i H' _ e => by rw [e]; exact Bx.Same.tup (same_new n12) th10.n) ?_ ?_
    · rintro i v H11 H11' hi rfl ⟨rfl, hx⟩
      obtain ⟨z, hz, rfl⟩ := at_map hx
      refine ⟨rfl, ?_⟩
      walk_at "rd"
      have hd2 : (upd H10 D12 (.lst (((ns.take i).map (rn t)).map V.str))) d = some (.dK (tbV t)) := by
        rw [upd_ne nd12]
        exact hd10
      refine ⟨.inl ⟨_, .inl hd2⟩, ?_⟩
      walk_at "rd"
      refine ⟨_, DGet.k (k := .inr z) hd2, ?_⟩
      rw [val_tb]
      refine ⟨_, upd_same, ?_, ?_⟩
      · rw [List.length_map, List.length_map]
        exact szl (Nat.lt_of_le_of_lt (List.length_take_le' i ns) (by have := o8.len; omega))
      · rw [upd_upd, List.take_add_one, hz, List.map_append, List.map_append]
        rfl
    rintro H11 rfl
    rw [List.length_map, List.take_length]
    have u12 := same_new n12 (o := .lst ((ns.map (rn t)).map V.str))
    have h12 := upd_same (H := H10) (a := D12) (o := .lst ((ns.map (rn t)).map V.str))
    generalize upd H10 D12 (.lst ((ns.map (rn t)).map V.str)) = H11 at u12 h12 ⊢
    walk_at "rd"
    refine ⟨D12, ns.map (rn t), rfl, sq h12, by rw [List.length_map]; have := o8.len; omega, fun zs p pm2 st2 np => ?_⟩
    have u13 := Same.trans u12 (same_new np (o := .lst (zs.map V.str)))
    have hz12 := upd_same (H := H11) (a := p) (o := .lst (zs.map V.str))
    generalize upd H11 p (.lst (zs.map V.str)) = H12 at u13 hz12 ⊢
    have hd12 := u13 _ _ hd10
    have th12 := th10.same u13
    have b12 := b10.trans (Bx.Same.but u13)
    have hA12 := src_same hA10 u13
    have h11' := u13 _ _ h11
    have hda12 := dpAll_same u13 hda
    clear u12 h12 n12 nd12 hd10 th10 b10 hA10 h11 hda np
    walk_at "rd"
    refine ⟨_, _, _, _, rfl, rfl, th12.t, atI_nat (j := 1) rfl, ?_⟩
    refine ⟨ca, rfl, ⟨_, th12.c⟩, fun D13 n13 => ?_⟩
    have xl : xs.length = cs.length := by rw [da_len th12.d, List.length_map]
    refine lc_it walk_tup (fun i H' => ∃ ws, H' D13 = some (.lst ws) ∧ DpAll K H' ws (((cs.take i).map (rnC t)).map ctD) ∧ ws.length = i ∧ Same H12 H') ⟨[], upd_same, .nil, rfl, same_new n13⟩ (fun i H' _ ⟨_, _, _, _, s⟩ => Bx.Same.tup s th12.c) ?_ ?_
    · rintro i v H13 H13' hi ⟨ws, hw, hwd, hwl, s13⟩ ⟨rfl, hx⟩
      obtain ⟨c, hc, dc⟩ := da_at th12.d hx
      obtain ⟨pc, rfl, hpc⟩ := ctr_dp dc
      obtain ⟨x, y, k⟩ := c
      refine ⟨rfl, ?_⟩
      have hp13 := Bx.Same.tup s13 hpc
      have hd13 := s13 _ _ hd12
      walk_at "rd"
      refine ⟨.inl ⟨_, .inl hd13⟩, ?_⟩
      walk_at "rd"
      refine ⟨_, _, _, _, rfl, rfl, hp13, atI_nat (j := 0) rfl, ?_⟩
      walk_at "rd"
      refine ⟨_, _, _, _, rfl, rfl, hp13, atI_nat (j := 0) rfl, ?_⟩
      refine ⟨_, DGet.k (k := .inr x) hd13, ?_⟩
      walk_at "rd"
      refine ⟨.inl ⟨_, .inl hd13⟩, ?_⟩
      walk_at "rd"
      refine ⟨_, _, _, _, rfl, rfl, hp13, atI_nat (j := 1) rfl, ?_⟩
      walk_at "rd"
      refine ⟨_, _, _, _, rfl, rfl, hp13, atI_nat (j := 1) rfl, ?_⟩
      refine ⟨_, DGet.k (k := .inr y) hd13, ?_⟩
      walk_at "rd"
      refine ⟨_, _, _, _, rfl, rfl, hp13, atI_nat (j := 2) rfl, ?_⟩
      walk_at "rd"
      rw [val_tb, val_tb]
      refine ⟨sz (by show 3 ≤ 100000; decide), fun T2 nT2 => ?_⟩
      have sT := same_new nT2 (o := .tup [.str (rn t x), .str (rn t y), .int k])
      have eT : (upd H13' T2 (.tup [.str (rn t x), .str (rn t y), .int k])) T2 = some (.tup [.str (rn t x), .str (rn t y), .int k]) := upd_same
      have hw2 := sT _ _ hw
      have tk := tk_lst (K := K) (o := .lst (ws ++ [.ref T2])) hw2
      refine ⟨ws, hw2, szl (by omega), ws ++ [.ref T2], upd_same, ?_, by rw [List.length_append, hwl]; rfl, ?_⟩
      · rw [List.take_add_one, hc, List.map_append, List.map_append]
        refine da_app (da_tk tk _ _ (tup_ctr _) (dpAll_same sT hwd)) (da_one ?_)
        exact dp_tk tk _ _ rfl (dp_ctr (c := rnC t (x, y, k)) (sqt eT))
      · intro e o he
        rw [upd_ne (ne_of_none he n13)]
        exact sT _ _ (s13 _ _ he)
    rintro H13 ⟨ws, hw, hwd, hwl, s13⟩
    rw [xl, List.take_length] at hwd
    have hd13 := s13 _ _ hd12
    have th13 := th12.same s13
    have b13 := b12.trans (Bx.Same.but s13)
    have hA13 := src_same hA12 s13
    have h11'' := s13 _ _ h11'
    have hda13 := dpAll_same s13 hda12
    have hz13 := s13 _ _ hz12
    clear s13 n13 hd12 th12 b12 hA12 h11' hda12 hz12
    walk_at "rd"
    refine fun k dk nk ndk ne => ?_
    obtain ⟨u1, hk1⟩ := bare_new (C := C) nk ndk ne
    generalize upd (upd H13 dk (.own k)) k (.ins C dk []) = H14 at u1 hk1 ⊢
    refine ⟨k, dk, [], rfl, hk1, rfl, ?_⟩
    walk_at "rd"
    show spRename K _ _ _ _
    unfold spRename
    refine ⟨k, T, na, ca, d, xs, ns, cs, t, rfl, th13.same u1, u1 _ _ hd13, by have := o8.len; omega, by omega, fun r H15 ys2 s15 hr15 st3 nd3 mem3 => ?_⟩
    have s35 := Same.trans u1 s15
    have ezs : zs = ys2 := perm_asc pm2 st2 rnd (asc_of st3 nd3) mem3
    subst ezs
    walk_at "rd"
    refine ⟨p, _, rfl, .inl ⟨sq (s35 _ _ hz13), fun t1 nt1 => ?_⟩⟩
    have v1 := same_new nt1 (o := .tup (zs.map V.str))
    have g1 := upd_same (H := H15) (a := t1) (o := .tup (zs.map V.str))
    generalize upd H15 t1 (.tup (zs.map V.str)) = H16 at v1 g1 ⊢
    walk_at "rd"
    refine ⟨D13, ws, rfl, .inl ⟨sq (v1 _ _ (s35 _ _ hw)), fun t2 nt2 => ?_⟩⟩
    have v2 := same_new nt2 (o := .tup ws)
    have g2 := upd_same (H := H16) (a := t2) (o := .tup ws)
    generalize upd H16 t2 (.tup ws) = H17 at v2 g2 ⊢
    refine ⟨sz (by show 2 ≤ 100000; decide), fun t3 nt3 => ?_⟩
    have v3 := same_new nt3 (o := .tup [.ref t1, .ref t2])
    have g3 := upd_same (H := H17) (a := t3) (o := .tup [.ref t1, .ref t2])
    generalize upd H17 t3 (.tup [.ref t1, .ref t2]) = H18 at v3 g3 ⊢
    have v := Same.trans v1 (Same.trans v2 v3)
    have s38 := Same.trans s35 v
    have zok : ∀ z ∈ zs, PyData.strOk z = true := fun z hz => by
      obtain ⟨x, hx, rfl⟩ := List.mem_map.mp ((mem3 z).mp hz)
      exact rn_ok (o8.ok x hx) tok
    have pok : ∀ z ∈ pls ns, PyData.strOk (rn t z) = true := fun z hz => by
      rcases List.mem_cons.mp hz with h | h
      · rw [h]; exact rn_ok ok_emp tok
      · exact rn_ok (o8.ok z h) tok
    have ly : Lay 3 (.tuple [.tuple (zs.map PyData.str), .tuple ((cs.map (rnC t)).map ctD)]) := lay_tuple (lays_cons (lay_up (lay_tuple (n := 1) (lays_strs zok)) (by decide)) (lays_cons (lay_tuple (lays_of fun dd hdd => by
      obtain ⟨c', hc', rfl⟩ := List.mem_map.mp hdd
      obtain ⟨c, hc, rfl⟩ := List.mem_map.mp hc'
      obtain ⟨i1, i2, _⟩ := hin c hc
      exact lay_ctr (pok _ i1) (pok _ i2))) lays_nil))
    refine ⟨.tuple [.tuple (zs.map PyData.str), .tuple ((cs.map (rnC t)).map ctD)], .tuple [.tuple (zs.map PyData.str), .tuple ((cs.map (rnC t)).map ctD)], dp_same v hr15, .tup (sqt g3) (.cons (names_dp (sqt (Same.trans v2 v3 _ _ g1))) (da_one (.tup (sqt (v3 _ _ g2)) (dpAll_same s38 hwd)))), shape ly (by decide), shape ly (by decide), ?_⟩
    rw [eq_refl ly]
    refine ⟨_, rfl, ite2 (fun h => absurd h (by decide)) (fun _ => ?_)⟩
    dsimp only [tNext, tRet, tOp]
    have hd18 := s38 _ _ hd13
    refine pairs_lc (a := 8) (g := fun z => .str (rn t z)) (f := strF t) (by show 14 < 16; decide) (by decide) rfl hd18 k64 hv (fun z H' => .str _) (fun z => rfl) (fun R hR => ?_) (fun D2 H9' us2 ys2 s9 h1 h0 h2 pm3 st4 => ?_)
    · walk_at "rd"
      exact ⟨d, _, _, rfl, .inl hd18, key, k64, fun ys p pm st np => hR p _ ys (same_new np) upd_same pm st⟩
    · have e : ys2 = ys := perm_asc pm3 st4 tnd (asc_of st (pm.nodup_iff.mpr tnd)) (fun x => pm.mem_iff)
      rw [e] at h2
      walk_at "rd"
      have s39 := Same.trans s38 s9
      have ly2 : Lay 2 (.list (prs (strF t) ys)) := lay_list (lays_of fun dd hdd => by
        obtain ⟨z, hz, rfl⟩ := List.mem_map.mp hdd
        have zk := tki z (pm.mem_iff.mp hz)
        exact lay_tuple (lays_cons (lay_str zk) (lays_cons (lay_str (rn_ok zk tok)) lays_nil)))
      refine ⟨.list (prs (strF t) ys), .list (prs (strF t) ys), .lst (sq h1) h2, .lst (sq (s39 _ _ h11'')) (dpAll_same s39 hda13), shape ly2 (by decide), shape ly2 (by decide), ?_⟩
      rw [eq_refl ly2]
      exact q _ (b13.trans (Bx.Same.but s39)) (src_same hA13 s39)
end
end K14
namespace K14
local macro_rules | `(tactic| walk_at "rd") => `(tactic| repeat (first | refine ⟨rfl, ?_⟩ | refine ⟨_, rfl, ?_⟩ | refine ⟨_, _, rfl, rfl, ?_⟩ | refine ⟨⟨_, rfl⟩, ?_⟩))
open PySem PySem.Spec PyProof.Rows L2 Bx TL Dx Zx Ow Sup NdefX Px
theorem sl_tupAK {X : Cx} {K0 : PySem.W.Frag} (hk : X.K = K0) : SlR X (rSlA K0) := by
  subst hk
  exact sl_tupA
def noZ (z : Str) (l : List Str) : List Str := l.filter fun x => decide (x ≠ z)
theorem noZ_take {z x : Str} {l : List Str} {i : Nat} (h : l[i]? = some x) : noZ z (l.take (i + 1)) = noZ z (l.take i) ++ (if decide (x ≠ z) = true then [x] else []) := by
  unfold noZ
  rw [List.take_add_one, h, List.filter_append]
  congr 1
  show [x].filter _ = _
  by_cases c : decide (x ≠ z) = true
  · rw [List.filter_cons, if_pos c, if_pos c, List.filter_nil]
  · rw [List.filter_cons, if_neg c, if_neg c, List.filter_nil]
theorem noZ_new {z x : Str} {l : List Str} {i : Nat} (nd : l.Nodup) (h : l[i]? = some x) : x ∉ noZ z (l.take i) := fun hm => by
  have hm := (List.mem_filter.mp hm).1
  obtain ⟨j, hj⟩ := List.mem_iff_getElem?.mp hm
  rw [List.getElem?_take] at hj
  split at hj
  · rename_i hlt
    obtain ⟨l1, e1⟩ := List.getElem?_eq_some_iff.mp h
    obtain ⟨l2, e2⟩ := List.getElem?_eq_some_iff.mp hj
    exact List.pairwise_iff_getElem.mp nd j i l2 l1 hlt (e2.trans e1.symm)
  · cases hj
theorem knz_of {ns : List Str} {cs gs : List Ctr} {l : As} {z : Str} (hin : InPl ns cs) (hg : ∀ c ∈ gs, c ∈ cs) (hk : l.map (·.1) = noZ z ns) : KnZ l z gs := fun c hc => by
  obtain ⟨h1, h2, h3⟩ := hin c (hg c hc)
  have one : ∀ x, x ∈ pls ns → x = z ∨ Kn l x := fun x hx => by
    rcases List.mem_cons.mp hx with h | h
    · exact .inr (.inl h)
    · by_cases e : x = z
      · exact .inl e
      · exact .inr (.inr (by rw [hk]; exact List.mem_filter.mpr ⟨h, decide_eq_true e⟩))
  exact ⟨one _ h1, one _ h2, h3⟩
section
variable {P : Program} {w : World} {K : PySem.W.Frag} {mg : Str → Option Value} {base : Heap}
/-- [c for c in xs if ..] over constraints -/
theorem filt_lc {tt : TT} {σ : List (Option V)} {H : Hp} {i a : Nat} {D : Addr} {vs : List V} {gs : List Ctr} {pr : Ctr → Bool} {Q : VK} (hi : i < σ.length) (hs : σ[a]? = some (some (.ref D))) (hD : H D = some (.lst vs)) (hd : DpAll K H vs (gs.map ctD)) (hl : gs.length ≤ 1000)
    (ht : ∀ (c : Ctr) (p : Addr) (H' : Hp), c ∈ gs → Same H H' → CtrAt K H' p c.1 c.2.1 c.2.2 → ∀ R : Bool → Hp → Prop, (∀ H'', Same H' H'' → R (pr c) H'') → tt ((wipe σ [i]).set i (some (.ref p))) H' R)
    (q : ∀ D' us H', Same H H' → H D' = none → H' D' = some (.lst us) → DpAll K H' us ((gs.filter pr).map ctD) → Q (.ref D') H') :
    tLc (iList K (tVar a)) (gName i) tt (tVar i) [i] σ H Q := by
  refine ⟨_, hs, D, rfl, ⟨_, sq hD⟩, fun D' nD' => ?_⟩
  have vl' : vs.length = gs.length := by rw [da_len hd, List.length_map]
  refine lc_it walk_list (fun j H' => ∃ us, H' D' = some (.lst us) ∧ DpAll K H' us (((gs.take j).filter pr).map ctD) ∧ us.length ≤ j ∧ Same H H') ⟨[], upd_same, .nil, Nat.le_refl _, same_new nD'⟩ (fun j H' _ ⟨_, _, _, _, s⟩ => sq (s _ _ hD)) ?_ ?_
  · rintro j v H1 H2 hj ⟨us, hu, hda, hul, s1⟩ ⟨rfl, hx⟩
    obtain ⟨c, hc, dc⟩ := da_at hd hx
    obtain ⟨p, rfl, hp⟩ := ctr_dp dc
    have wl : (wipe σ [i]).length = σ.length := wipe_length σ [i]
    have wi : ((wipe σ [i]).set i (some (V.ref p)))[i]? = some (some (V.ref p)) := by
      rw [List.getElem?_set_self (by rw [wl]; exact hi)]
    refine ⟨?_, ?_⟩
    · show ((wipe σ []).set i none |>.set i (some (V.ref p)) |>.set i none) = (wipe σ []).set i none
      rw [List.set_set, List.set_set]
    refine ht c p _ (List.mem_of_getElem? hc) s1 (Bx.Same.tup s1 hp) _ fun H3 s3 => ?_
    have hf : (gs.take (j + 1)).filter pr = (gs.take j).filter pr ++ (if pr c = true then [c] else []) := by
      rw [List.take_add_one, hc, List.filter_append]
      congr 1
      show [c].filter pr = _
      by_cases e : pr c = true
      · rw [List.filter_cons, if_pos e, if_pos e, List.filter_nil]
      · rw [List.filter_cons, if_neg e, if_neg e, List.filter_nil]
    have hu3 := s3 _ _ hu
    have s13 := Same.trans s1 s3
    split
    · rename_i e
      have tk := tk_lst (K := K) (o := .lst (us ++ [.ref p])) hu3
      refine ⟨_, wi, us, hu3, szl (by omega), us ++ [.ref p], upd_same, ?_, by rw [List.length_append]; exact Nat.succ_le_succ hul, ?_⟩
      · rw [hf, if_pos e, List.map_append]
        exact da_app (da_tk tk _ _ (tup_ctr _) (dpAll_same s3 hda)) (da_one (dp_tk tk _ _ rfl (dp_ctr (c := c) (Bx.Same.tup s13 hp))))
      · intro b o hb
        rw [upd_ne (ne_of_none hb nD')]
        exact s13 _ _ hb
    · rename_i e
      exact ⟨us, hu3, by rw [hf, if_neg e, List.append_nil]; exact dpAll_same s3 hda, Nat.le_succ_of_le hul, s13⟩
  · rintro H1 ⟨us, hu, hda, hul, s1⟩
    rw [vl', List.take_length] at hda
    exact q D' us H1 s1 nD' hu hda
set_option maxHeartbeats 8000000 in
theorem ok_lift_right {f : Addr} {fd : FuncData} (F : Fun K "_law_lift_right" "_law_lift_right" s__law_lift_right f fd) (m_sorted : mg "sorted" = none) (m_list : mg "list" = none) (m_tuple : mg "tuple" = none) (C__law_draw : CDraw P w K mg base) (C__law_value : Cal P w K mg base "_law_value" 1 ["_law_values", "_law_name"] spVal2)
    (C__law_first : Cal P w K mg base "_law_first" 2 ["_law_theory_here", "_law_name", "_law_values"] (spFirst K)) (C__law_lifted : Cal P w K mg base "_law_lifted" 6 ["_law_theory_here", "_law_name", "_law_values", "_law_expected"] (spLifted K)) : FnOk P w K mg base CX0 7 f fd ["_law_source_here", "_law_theory_here"] (spThR K) := by
  refine F.ok sc__law_lift_right (fun vs H Q E h => ?_) (fun cdv A outer s H vs Q E hr h => ?_)
  · unfold spThR at h
    obtain ⟨s, T, na, ca, xs, ns, cs, rfl, _⟩ := h
    rfl
  · unfold spThR at h
    obtain ⟨src, T, na, ca, xs, ns, cs, rfl, hA, th, o8, hcl, hin, q⟩ := h
    have hu := hu_of hr
    refine ⟨_, (pss_cons (ps_for PassesOwn.never rfl (pi_tup (pe_ix ix_tup (pv 1) pe_int (fun _ _ => rfl))) (pg_name (i := 2) sc__law_lift_right.nd rfl (Or.inr rfl))
      (pss_cons (ps_set (i := 3) sc__law_lift_right.nd rfl (Or.inr rfl) pe_dnewK)
    (pss_cons (ps_for PassesOwn.never rfl (pi_tup (pe_ix ix_tup (pv 1) pe_int (fun _ _ => rfl))) (pg_name (i := 4) sc__law_lift_right.nd rfl (Or.inl rfl))
      (pss_one (ps_if (pt_cmpR op_ne (pv 4) (pv 2) (nomark _))
      (pss_one (ps_dput hu (pv 3) (pv 4) (pe_op op_sub (pe_cal C__law_draw (hr.mono (by decide)) (pa_cons (pv 0) (pa_cons pe_int pa_nil))) pe_int) rfl))
      pss_nil)))
    (pss_cons (ps_set (i := 5) sc__law_lift_right.nd rfl (Or.inl rfl) (pe_callTy (T := "list") call_list_of (by rfl) m_list (by decide +kernel) (pa_cons (pe_ix ix_tup (pv 1) pe_int (fun _ _ => rfl)) pa_nil)))
    (pss_cons (ps_if (pt_cmpR op_gt (pe_cal C__law_draw (hr.mono (by decide)) (pa_cons (pv 0) (pa_cons pe_int pa_nil))) pe_int (nomark _))
      (pss_one (ps_setLc (i := 5) (own := [("_law_c", 9)]) rfl sc__law_lift_right.nd rfl rfl (sw_true rfl rfl rfl (by decide +kernel)) (pi_list (pv 5)) (blkOk_by (N := n__law_lift_right) (sc := defScope s__law_lift_right) (by decide +kernel)) (fun _ _ _ _ _ => pg_name (i := 9) sc__law_lift_right.nd rfl (Or.inl rfl)) (fun _ _ _ _ _ => pts_one (PW.pt (pw_or (pt_cmpR (op_in_seqK (K := K) rfl) (pv 2) (pe_slice (sl_tupAK (K0 := K) rfl) (pv 9) po_none (po_some pe_int)) (by rfl)) (pw_or1 (pt_cmpR op_le (pe_op op_sub (pe_cal C__law_value (hr.mono (by decide)) (pa_cons (pv 3) (pa_cons (pe_ix (ix_tupK (K := K) rfl) (pv 9) pe_int (fun _ _ => rfl)) pa_nil))) (pe_cal C__law_value (hr.mono (by decide)) (pa_cons (pv 3) (pa_cons (pe_ix (ix_tupK (K := K) rfl) (pv 9) pe_int (fun _ _ => rfl)) pa_nil)))) (pe_ix (ix_tupK (K := K) rfl) (pv 9) pe_int (fun _ _ => rfl)) (nomark _)))))) (fun _ _ _ _ _ => (pv 9))))
      pss_nil)
    (pss_cons (ps_set (i := 6) sc__law_lift_right.nd rfl (Or.inr rfl) (pe_cal C__law_draw (hr.mono (by decide)) (pa_cons (pv 0) (pa_cons pe_int pa_nil))))
    (pss_cons (ps_if (pt_cmpR op_lt (pv 6) pe_int (nomark _))
      (pss_one (ps_setLc (i := 5) (own := [("_law_c", 9)]) rfl sc__law_lift_right.nd rfl rfl (sw_true rfl rfl rfl (by decide +kernel)) (pi_list (pv 5)) (blkOk_by (N := n__law_lift_right) (sc := defScope s__law_lift_right) (by decide +kernel)) (fun _ _ _ _ _ => pg_name (i := 9) sc__law_lift_right.nd rfl (Or.inl rfl)) (fun _ _ _ _ _ => pts_one (pt_cmpR op_ne (pe_ix (ix_tupK (K := K) rfl) (pv 9) (pv 6) (fun _ _ => rfl)) (pv 2) (nomark _))) (fun _ _ _ _ _ => (pv 9))))
      pss_nil)
    (pss_cons (ps_if (pt_cmpR op_eq (pv 6) pe_int (nomark _))
      (pss_one (ps_setLc (i := 5) (own := [("_law_c", 9)]) rfl sc__law_lift_right.nd rfl rfl (sw_true rfl rfl rfl (by decide +kernel)) (pi_list (pv 5)) (blkOk_by (N := n__law_lift_right) (sc := defScope s__law_lift_right) (by decide +kernel)) (fun _ _ _ _ _ => pg_name (i := 9) sc__law_lift_right.nd rfl (Or.inl rfl)) (fun _ _ _ _ _ => pts_one (pt_cmpR (op_notIn_seqK (K := K) rfl) (pv 2) (pe_slice (sl_tupAK (K0 := K) rfl) (pv 9) po_none (po_some pe_int)) (by rfl))) (fun _ _ _ _ _ => (pv 9))))
      pss_nil)
    (pss_cons (ps_set (i := 7) sc__law_lift_right.nd rfl (Or.inl rfl) (pe_tup (pa_cons (pe_ix ix_tup (pv 1) pe_int (fun _ _ => rfl)) (pa_cons (pe_callTy (T := "tuple") call_tuple_of (by rfl) m_tuple (by decide +kernel) (pa_cons (pv 5) pa_nil)) pa_nil))))
    (pss_cons (ps_setLc (i := 8) (own := [("_law_other", 4)]) (tt := tYes) rfl sc__law_lift_right.nd rfl rfl (sw_true rfl rfl rfl (by decide +kernel)) (pi_list (pe_callB (id := "sorted") (call_sortedD rfl) (by rfl) m_sorted (by decide +kernel) (pa_cons (pv 3) pa_nil))) (blkOk_by (N := n__law_lift_right) (sc := defScope s__law_lift_right) (by decide +kernel)) (fun _ _ _ _ _ => pg_name (i := 4) sc__law_lift_right.nd rfl (Or.inl rfl)) (fun _ _ _ _ _ => pts_nil) (fun _ _ _ _ _ => (pe_tup (pa_cons (pv 4) (pa_cons (pe_dget hu (pv 3) (pv 4) (fun _ _ => rfl)) pa_nil)))))
    (pss_cons (ps_if (pt_not (pt_val (pe_cal C__law_lifted (hr.mono (by decide)) (pa_cons (pv 7) (pa_cons (pv 2) (pa_cons (pv 3) (pa_cons (pe_cal C__law_first (hr.mono (by decide)) (pa_cons (pv 7) (pa_cons (pv 2) (pa_cons (pv 3) pa_nil)))) pa_nil)))))))
      (pss_one (ps_ret pe_bl))
      pss_nil)
    (pss_one (ps_if (pt_cmpR (op_neD hr.units) (pe_lc (own := [("_law_other", 4)]) (tt := tYes) rfl sc__law_lift_right.nd (pi_list (pe_callB (id := "sorted") (call_sortedD rfl) (by rfl) m_sorted (by decide +kernel) (pa_cons (pv 3) pa_nil))) (blkOk_by (N := n__law_lift_right) (sc := defScope s__law_lift_right) (by decide +kernel)) (fun _ _ _ _ _ => pg_name (i := 4) sc__law_lift_right.nd rfl (Or.inl rfl)) (fun _ _ _ _ _ => pts_nil) (fun _ _ _ _ _ => (pe_tup (pa_cons (pv 4) (pa_cons (pe_dget hu (pv 3) (pv 4) (fun _ _ => rfl)) pa_nil))))) (pv 8) (nomark _))
      (pss_one (ps_ret pe_bl))
      pss_nil)))))))))))))
    (pss_one (ps_ret pe_bl))), ?_⟩
    walk_at "rd"
    refine ⟨_, _, _, _, rfl, rfl, th.t, atI_nat (j := 0) rfl, ?_⟩
    refine ⟨na, rfl, ⟨_, th.n⟩, ?_⟩
    refine for_it walk_tup (fun i σ H' => ∃ o2 o3 o4 o5 o6 o7 o8 o9 : Option V, σ = [some (.ref src), some (.ref T), o2, o3, o4, o5, o6, o7, o8, o9] ∧ SameBut src H H' ∧ Src H' src)
      ⟨none, none, none, none, none, none, none, none, rfl, SameBut.refl _ _, hA⟩ (fun i σ H' _ h => by obtain ⟨_, _, _, _, _, _, _, _, _, b, _⟩ := h; exact sqt_but hA b th.n) ?_ ?_
    · rintro i v σ H1 H1' hi ⟨o2, o3, o4, o5, o6, o7, o8', o9, rfl, b1, hA1⟩ ⟨rfl, hx⟩
      obtain ⟨z, hz, rfl⟩ := at_map hx
      have hzn := List.mem_of_getElem? hz
      have z0 := o8.ne z hzn
      have th1 := th.but hA b1
      walk_at "rd"
      refine fun d nd => ?_
      have nds := src_ne hA1 nd
      have ndH : H d = none := but_free b1 nds.symm nd
      have u2 := same_new nd (o := .dK [])
      have hd2 := upd_same (H := H1') (a := d) (o := .dK [])
      have hA2 := src_same hA1 u2
      have b2 := b1.trans (Bx.Same.but u2)
      have th2 := th1.same u2
      generalize upd H1' d (.dK []) = H2 at hd2 hA2 b2 th2 ⊢
      clear u2 th1 b1 hA1 nd
      walk_at "rd"
      refine ⟨_, _, _, _, rfl, rfl, th2.t, atI_nat (j := 0) rfl, ?_⟩
      refine ⟨na, rfl, ⟨_, th2.n⟩, ?_⟩
      refine for_it walk_tup (fun i σ H' => ∃ (o4 : Option V) (l : As), σ = [some (.ref src), some (.ref T), some (.str z), some (.ref d), o4, o5, o6, o7, o8', o9] ∧ H' d = some (.dK (asV l)) ∧ l.map (·.1) = noZ z (ns.take i) ∧ SameBut src H H' ∧ Src H' src)
        ⟨o4, [], rfl, hd2, rfl, b2, hA2⟩ (fun i σ H' _ h => by obtain ⟨_, _, _, _, _, b, _⟩ := h; exact sqt_but hA b th.n) ?_ ?_
      · rintro j v σ H3 H3' hj ⟨o4, l, rfl, hd, hk, b3, hA3⟩ ⟨rfl, hx⟩
        obtain ⟨y, hy, rfl⟩ := at_map hx
        walk_at "rd"
        rw [ne_str]
        refine ite2 (fun h6 => ?_) (fun h6 => ?_)
        · walk_at "rd"
          refine draw_of hA3 ⟨by decide, by decide⟩ fun r H4 r0 r1 s4 hA4 => ?_
          have hd4 := s4 _ _ nds.symm hd
          have yl : y ∉ l.map (·.1) := by
            rw [hk]
            exact noZ_new o8.nd hy
          have lk : l.length ≤ 8 := by
            have e := congrArg List.length hk
            rw [List.length_map] at e
            have := List.length_filter_le (fun x => decide (x ≠ z)) (ns.take j)
            have := List.length_take_le' j ns
            have := o8.len
            unfold noZ at e
            omega
          walk_at "rd"
          refine ⟨_, _, rfl, DPut.k (k := .inr y) hd4 (by rw [show (asV l).length = l.length from List.length_map _]; exact szl (by omega)), ?_⟩
          rw [put_as yl]
          refine ⟨_, put l y (r - 4), rfl, upd_same, ?_, ?_, src_upd hA4 nds⟩
          · unfold put
            rw [List.map_append, hk, noZ_take hy, if_pos h6]
            rfl
          · exact but_at ndH (b3.trans s4)
        · refine ⟨_, l, rfl, hd, ?_, b3, hA3⟩
          rw [hk, noZ_take hy, if_neg h6, List.append_nil]
      rintro σ H3 ⟨o4', l, rfl, hd, hk, b3, hA3⟩
      rw [List.length_map, List.take_length] at hk
      clear hd2 hA2 b2 th2
      have th3 := th.but hA b3
      have lk : l.length ≤ 8 := by
        have e := congrArg List.length hk
        rw [List.length_map] at e
        have := List.length_filter_le (fun x => decide (x ≠ z)) ns
        have := o8.len
        unfold noZ at e
        omega
      have zl : z ∉ l.map (·.1) := by
        rw [hk]
        intro hm
        have := (List.mem_filter.mp hm).2
        simp at this
      walk_at "rd"
      refine ⟨_, _, _, _, rfl, rfl, th3.t, atI_nat (j := 1) rfl, ?_⟩
      walk_at "rd"
      refine ⟨ca, _, rfl, .inr th3.c, fun L nL => ?_⟩
      have nLs := (src_ne hA3 nL).symm
      have u4 := same_new nL (o := .lst xs)
      have hL := upd_same (H := H3) (a := L) (o := .lst xs)
      have G0 : ∃ (D5 : Addr) (us : List V) (gs : List Ctr), V.ref L = .ref D5 ∧ D5 ≠ src ∧ (upd H3 L (.lst xs)) D5 = some (.lst us) ∧ DpAll K (upd H3 L (.lst xs)) us (gs.map ctD) ∧ (∀ c ∈ gs, c ∈ cs) ∧ gs.length ≤ 8 ∧ SameBut src H (upd H3 L (.lst xs)) ∧ Src (upd H3 L (.lst xs)) src ∧ (upd H3 L (.lst xs)) d = some (.dK (asV l)) :=
        ⟨L, xs, cs, rfl, nLs, hL, dpAll_same u4 th3.d, fun _ h => h, hcl, b3.trans (Bx.Same.but u4), src_same hA3 u4, u4 _ _ hd⟩
      generalize upd H3 L (.lst xs) = H4 at G0 ⊢
      generalize V.ref L = vL at G0 ⊢
      obtain ⟨D5, us, gs, rfl, n5s, h5, hda, hg, hgl, b4, hA4, hd4⟩ := G0
      clear u4 hL nL nLs L b3 hA3 th3 hd
      dsimp only [gName]
      refine st_gi (i := 5) (fun v H' => ∃ (D5 : Addr) (us : List V) (gs : List Ctr), v = .ref D5 ∧ D5 ≠ src ∧ H' D5 = some (.lst us) ∧ DpAll K H' us (gs.map ctD) ∧ (∀ c ∈ gs, c ∈ cs) ∧ gs.length ≤ 8 ∧ SameBut src H H' ∧ Src H' src ∧ H' d = some (.dK (asV l))) (fun D' hD' => ?_) (fun v H5 => ?_)
      · walk_at "rd"
        refine draw_of hA4 ⟨by decide, by decide⟩ fun r H5 r0 r1 s5 hA5 => ?_
        have h55 := s5 _ _ n5s h5
        have hda5 := da_tk (tk_but hA4 s5) _ _ (tup_ctr _) hda
        have b5 := b4.trans s5
        have hd5 := s5 _ _ nds.symm hd4
        walk_at "rd"
        refine ite2 (fun h6 => ?_) (fun h6 => ?_)
        · dsimp only [tAsg]
          refine filt_lc (gs := gs) (pr := fun c => decide (z ∈ [c.1, c.2.1]) || decide (vl l c.1 - vl l c.2.1 ≤ c.2.2)) (by show 9 < 10; decide) rfl h55 hda5 (by omega) (fun c p H6 hcg s6 hp R hR => ?_) (fun D6 us6 H6 s6 n6 h6' hda6 => ?_)
          · obtain ⟨x, y, k⟩ := c
            walk_at "rd"
            refine slice_of (k := 2) rfl (by show 2 ≤ 3; omega) hp fun t H7 s7 ht => ?_
            have ht : SqT K H7 t ([x, y].map V.str) := ht
            walk_at "rd"
            refine ⟨t, _, rfl, .inr ht, rfl, flat_strs _, ?_⟩
            rw [inV_str]
            have z7 : R (decide (z ∈ [x, y]) || decide (vl l x - vl l y ≤ k)) H7 := hR H7 s7
            walk_at "rd"
            refine ite2 (fun h7 => ?_) (fun h7 => ?_)
            · have h7' : decide (z ∈ [x, y]) = true := h7
              rw [h7'] at z7
              exact z7
            · have h7' : decide (z ∈ [x, y]) = false := Bool.eq_false_iff.mpr h7
              rw [h7', Bool.false_or] at z7
              have hni := of_decide_eq_false h7'
              obtain ⟨k1, k2, _⟩ := knz_of hin hg hk _ hcg
              have kx : Kn l x := k1.resolve_left fun e => hni (by rw [show x = z from e]; exact List.mem_cons_self ..)
              have ky : Kn l y := k2.resolve_left fun e => hni (by rw [show y = z from e]; exact List.mem_cons_of_mem _ (List.mem_cons_self ..))
              have hp7 := Bx.Same.tup s7 hp
              have hd7 := s7 _ _ (s6 _ _ hd5)
              walk_at "rd"
              refine ⟨_, _, _, _, rfl, rfl, hp7, atI_nat (j := 0) rfl, ?_⟩
              refine value2_of hd7 kx ?_
              walk_at "rd"
              refine ⟨_, _, _, _, rfl, rfl, hp7, atI_nat (j := 1) rfl, ?_⟩
              refine value2_of hd7 ky ?_
              walk_at "rd"
              refine ⟨_, _, _, _, rfl, rfl, hp7, atI_nat (j := 2) rfl, ?_⟩
              walk_at "rd"
              exact z7
          · exact hD' _ _ ⟨D6, us6, _, rfl, (src_ne hA5 n6).symm, h6', hda6, fun c hc => hg c (List.mem_filter.mp hc).1, Nat.le_trans (List.length_filter_le _ _) hgl, b5.trans (Bx.Same.but s6), src_same hA5 s6, s6 _ _ hd5⟩
        · exact hD' _ _ ⟨D5, us, gs, rfl, n5s, h55, hda5, hg, hgl, b5, hA5, hd5⟩
      rintro ⟨D6, us2, gs2, rfl, n6s, h6, hda2, hg2, hgl2, b5, hA5, hd5⟩
      clear h5 hda hg hgl b4 hA4 hd4
      walk_at "rd"
      refine draw_of hA5 ⟨by decide, by decide⟩ fun r H6 r0 r1 s6 hA6 => ?_
      have h66 := s6 _ _ n6s h6
      have hda6 := da_tk (tk_but hA5 s6) _ _ (tup_ctr _) hda2
      have b6 := b5.trans s6
      have hd6 := s6 _ _ nds.symm hd5
      clear s6 hA5 h6 hda2 b5 hd5
      dsimp only [gName]
      refine st_gi (i := 5) (fun v H' => ∃ (D5 : Addr) (us : List V) (gs : List Ctr), v = .ref D5 ∧ H' D5 = some (.lst us) ∧ DpAll K H' us (gs.map ctD) ∧ (∀ c ∈ gs, c ∈ cs) ∧ gs.length ≤ 8 ∧ Same H6 H') (fun D' hD' => ?_) (fun v H7 => ?_)
      · walk_at "rd"
        refine ite2 (fun h7 => ?_) (fun h7 => ?_)
        · have r2 : r < 2 := of_decide_eq_true h7
          dsimp only [tAsg]
          refine filt_lc (gs := gs2) (pr := fun c => decide ((if r = 0 then c.1 else c.2.1) ≠ z)) (by show 9 < 10; decide) rfl h66 hda6 (by omega) (fun c p H7 hcg s7 hp R hR => ?_) (fun D7 us7 H7 s7 n7 h7' hda7 => ?_)
          · obtain ⟨x, y, k⟩ := c
            have z7 : R (decide ((if r = 0 then x else y) ≠ z)) H7 := hR H7 (Same.refl _)
            have ei : atI [V.str x, V.str y, V.int k] r = some (V.str (if r = 0 then x else y)) := by
              rcases (show r = 0 ∨ r = 1 by omega) with e | e
              · rw [e]
                exact atI_nat (j := 0) rfl
              · rw [e]
                exact atI_nat (j := 1) rfl
            walk_at "rd"
            refine ⟨_, _, _, _, rfl, rfl, hp, ei, ?_⟩
            walk_at "rd"
            rw [ne_str]
            exact z7
          · exact hD' _ _ ⟨D7, us7, _, rfl, h7', hda7, fun c hc => hg2 c (List.mem_filter.mp hc).1, Nat.le_trans (List.length_filter_le _ _) hgl2, s7⟩
        · exact hD' _ _ ⟨D6, us2, gs2, rfl, h66, hda6, hg2, hgl2, Same.refl _⟩
      rintro ⟨D7, us3, gs3, rfl, h7, hda3, hg3, hgl3, s7⟩
      clear h66 hda6 hg2 hgl2
      refine st_gi (i := 5) (fun v H' => ∃ (D5 : Addr) (us : List V) (gs : List Ctr), v = .ref D5 ∧ H' D5 = some (.lst us) ∧ DpAll K H' us (gs.map ctD) ∧ (∀ c ∈ gs, c ∈ cs) ∧ gs.length ≤ 8 ∧ Same H6 H') (fun D' hD' => ?_) (fun v H8 => ?_)
      · walk_at "rd"
        refine ite2 (fun h8 => ?_) (fun h8 => ?_)
        · dsimp only [tAsg]
          refine filt_lc (gs := gs3) (pr := fun c => !decide (z ∈ [c.1, c.2.1])) (by show 9 < 10; decide) rfl h7 hda3 (by omega) (fun c p H8 hcg s8 hp R hR => ?_) (fun D8 us8 H8 s8 n8 h8' hda8 => ?_)
          · obtain ⟨x, y, k⟩ := c
            walk_at "rd"
            refine slice_of (k := 2) rfl (by show 2 ≤ 3; omega) hp fun t H9 s9 ht => ?_
            have ht : SqT K H9 t ([x, y].map V.str) := ht
            walk_at "rd"
            refine ⟨t, _, rfl, .inr ht, rfl, flat_strs _, ?_⟩
            rw [inV_str]
            have z7 : R (!decide (z ∈ [x, y])) H9 := hR H9 s9
            walk_at "rd"
            exact z7
          · exact hD' _ _ ⟨D8, us8, _, rfl, h8', hda8, fun c hc => hg3 c (List.mem_filter.mp hc).1, Nat.le_trans (List.length_filter_le _ _) hgl3, Same.trans s7 s8⟩
        · exact hD' _ _ ⟨D7, us3, gs3, rfl, h7, hda3, hg3, hgl3, s7⟩
      rintro ⟨D8, us4, gs4, rfl, h8, hda4, hg4, hgl4, s8⟩
      clear h7 hda3 hg3 hgl3 s7
      have kn := knz_of hin hg4 hk
      have th8 := (th.but hA b6).same s8
      have hd8 := s8 _ _ hd6
      have b8 := b6.trans (Bx.Same.but s8)
      have hA8 := src_same hA6 s8
      clear s8 hd6 b6 hA6
      walk_at "rd"
      refine ⟨_, _, _, _, rfl, rfl, th8.t, atI_nat (j := 0) rfl, ?_⟩
      walk_at "rd"
      refine ⟨D8, us4, rfl, .inl ⟨sq h8, fun ct nct => ?_⟩⟩
      have u9 := same_new nct (o := .tup us4)
      have g9 := upd_same (H := H8) (a := ct) (o := .tup us4)
      generalize upd H8 ct (.tup us4) = H9 at u9 g9 ⊢
      refine ⟨sz (by show 2 ≤ 100000; decide), fun A nA => ?_⟩
      have u10 := same_new nA (o := .tup [.ref na, .ref ct])
      have g10 := upd_same (H := H9) (a := A) (o := .tup [.ref na, .ref ct])
      generalize upd H9 A (.tup [.ref na, .ref ct]) = H10 at u10 g10 ⊢
      have u := Same.trans u9 u10
      have thA : Th K H10 A na ct us4 ns gs4 := ⟨sqt g10, Bx.Same.tup u th8.n, sqt (u10 _ _ g9), dpAll_same u hda4⟩
      have hd10 := u _ _ hd8
      have b10 := b8.trans (Bx.Same.but u)
      have hA10 := src_same hA8 u
      clear u9 u10 g9 g10 u th8 hd8 b8 hA8 h8 hda4
      have key : (asV l).map (·.1) = (noZ z ns).map Sum.inr := by rw [keys_as, hk]
      have asc : Asc (noZ z ns) := o8.asc.sublist List.filter_sublist
      have nd' : (noZ z ns).Nodup := asc_nodup asc
      have lc64 : (noZ z ns).length < 64 := Nat.lt_of_le_of_lt (List.length_filter_le _ _) (by have := o8.len; omega)
      have sub : ∀ y ∈ noZ z ns, y ∈ ns := fun y hy => (List.mem_filter.mp hy).1
      have hv : ∀ y ∈ noZ z ns, valV (asV l) (.inr y) = some (.int (vl l y)) := fun y hy => has_as (by rw [hk]; exact hy) (o8.ne y (sub y hy))
      dsimp only [gName]
      refine set_gi (te := tLc _ _ _ _ _) (i := 8) (fun v H' => ∃ (D : Addr) (us : List V), v = .ref D ∧ Same H10 H' ∧ H' D = some (.lst us) ∧ DpAll K H' us (prs (intF l) (noZ z ns))) (fun Z hZ => ?_) (fun v H11 => ?_)
      · refine pairs_lc (a := 3) (g := fun z => .int (vl l z)) (f := intF l) (by show 4 < 10; decide) (by decide) rfl hd10 lc64 hv (fun z H' => .int _) (fun z => rfl) (fun R hR => ?_) (fun D H' us ys s h1 h0 h2 pm st => ?_)
        · walk_at "rd"
          exact ⟨d, _, _, rfl, .inl hd10, key, lc64, fun ys p pm st np => hR p _ ys (same_new np) upd_same pm st⟩
        · have e := perm_asc pm st nd' asc (fun _ => Iff.rfl)
          rw [e] at h2
          exact hZ _ _ ⟨D, us, rfl, s, h1, h2⟩
      rintro ⟨D9, us9, rfl, s11, h11, hda11⟩
      have thA := thA.same s11
      have hd11 := s11 _ _ hd10
      have b11 := b10.trans (Bx.Same.but s11)
      have hA11 := src_same hA10 s11
      clear s11 hd10 b10 hA10
      walk_at "rd"
      show spFirst K _ _ _ _
      unfold spFirst
      refine ⟨A, na, ct, d, us4, ns, gs4, l, z, rfl, thA, hd11, by omega, z0, zl, kn, fun H12 s12 => ?_⟩
      walk_at "rd"
      show spLifted K _ _ _ _
      unfold spLifted
      refine ⟨A, na, ct, d, us4, ns, gs4, l, z, rfl, thA.same s12, s12 _ _ hd11, by omega, by omega, z0, o8.short z hzn, zl, kn, fun H13 s13 => ?_⟩
      have s23 := Same.trans s12 s13
      have hd13 := s23 _ _ hd11
      refine ⟨_, rfl, ite2 (fun h => absurd h (by decide)) (fun _ => ?_)⟩
      dsimp only [tNext, tIfS, tTest, tOp]
      refine pairs_lc (a := 3) (g := fun z => .int (vl l z)) (f := intF l) (by show 4 < 10; decide) (by decide) rfl hd13 lc64 hv (fun z H' => .int _) (fun z => rfl) (fun R hR => ?_) (fun D2 H14 us2 ys s9 h1 h0 h2 pm st => ?_)
      · walk_at "rd"
        exact ⟨d, _, _, rfl, .inl hd13, key, lc64, fun ys p pm st np => hR p _ ys (same_new np) upd_same pm st⟩
      · have e := perm_asc pm st nd' asc (fun _ => Iff.rfl)
        rw [e] at h2
        have s24 := Same.trans s23 s9
        walk_at "rd"
        have ly : Lay 2 (.list (prs (intF l) (noZ z ns))) := lay_list (lays_of fun dd hdd => by
          obtain ⟨y, hy, rfl⟩ := List.mem_map.mp hdd
          exact lay_tuple (lays_cons (lay_str (o8.ok y (sub y hy))) (lays_cons lay_int lays_nil)))
        refine ⟨.list (prs (intF l) (noZ z ns)), .list (prs (intF l) (noZ z ns)), .lst (sq h1) h2, .lst (sq (s24 _ _ h11)) (dpAll_same s24 hda11), shape ly (by decide), shape ly (by decide), ?_⟩
        rw [eq_refl ly]
        refine ⟨_, rfl, ite2 (fun h => absurd h (by decide)) (fun _ => ?_)⟩
        exact ⟨_, _, _, _, _, _, _, _, rfl, b11.trans (Bx.Same.but s24), src_same hA11 s24⟩
    · rintro σ H1 ⟨o2, o3, o4, o5, o6, o7, o8', o9, rfl, b1, hA1⟩
      walk_at "rd"
      exact q _ b1 hA1
end
end K14
namespace K14
local macro_rules | `(tactic| walk_at "rd") => `(tactic| repeat (first | refine ⟨rfl, ?_⟩ | refine ⟨_, rfl, ?_⟩ | refine ⟨_, _, rfl, rfl, ?_⟩ | refine ⟨⟨_, rfl⟩, ?_⟩))
open PySem PySem.Spec PyProof.Rows L2 Bx TL Dx Zx Ow Sup NdefX Px
section
variable {P : Program} {w : World} {K : PySem.W.Frag} {mg : Str → Option Value} {base : Heap}
theorem pe_mth0 {X : Cx} {C : Addr} {k : Nat} {ps : List Str} {sp : Sp} {m : Str} {o : Expr} {to : TE} {apos pos : Pos} {pl : Sem Bool} (c : MthC X.prog X.w X.K X.mg X.base C m k ps sp) (hr : Room k X.A) (ho : PE X o to)
    (ht : eval (.Call (.Attribute o m apos) [] [] pos) X.env = (do
      let ov ← eval o X.env
      standAt apos.atName
      let (f, first) ← holding [ov] (getMethod ov m pl)
      callWith pos f first (backTo pos (starEach [] X.env)) (backToKw pos (keywordEach [] X.env))) := by rfl) : PE X (.Call (.Attribute o m apos) [] [] pos) (tMeth C m sp [] E0 to tNil) := by
  obtain ⟨f, fd, cl, mt, ok, b⟩ := c.ex
  exact pe_meth0 (E := E0) ho cl mt ok hr b .nil pass0 ht
def spLaw (K : PySem.W.Frag) : Sp := fun vs H Q _ => ∃ (a : Addr) (ns : List Int), vs = [.ref a] ∧ SqL K H a (ns.map V.int) ∧ ns.length ≤ 63 ∧ ∀ H', Q (.bl true) H'
set_option maxHeartbeats 2000000 in
theorem ok_law {C : Addr} {f : Addr} {fd : FuncData} (F : Fun K "law" "law" s_law f fd) (m_range : mg "range" = none) (B_Steps : Mk0.Bare K mg "Steps" C) (M_contradiction : MthC P w K mg base C "contradiction" 1 ["self"] (spContra K))
    (C__law_source : Cal P w K mg base "_law_source" 1 ["_law_script", "_law_k"] (spSource K)) (C__law_theory : Cal P w K mg base "_law_theory" 4 ["_law_source_here"] (spTheory K)) (C__law_valid_right : Cal P w K mg base "_law_valid_right" 5 ["_law_source_here", "_law_names"] (spVR K)) (C__law_holds_right : Cal P w K mg base "_law_holds_right" 4 ["_law_source_here", "_law_names"] (spNm K))
    (C__law_rename_right : Cal P w K mg base "_law_rename_right" 4 ["_law_source_here", "_law_theory_here"] (spThR K)) (C__law_pin_right : Cal P w K mg base "_law_pin_right" 3 ["_law_source_here", "_law_names"] (spNm K)) (C__law_ground_right : Cal P w K mg base "_law_ground_right" 5 ["_law_source_here"] (spRt K)) (C__law_lift_right : Cal P w K mg base "_law_lift_right" 7 ["_law_source_here", "_law_theory_here"] (spThR K)) :
    FnOk P w K mg base CX0 8 f fd ["_law_script"] (spLaw K) := by
  refine F.ok sc_law (fun vs H Q E h => ?_) (fun cdv A outer s H vs Q E hr h => ?_)
  · unfold spLaw at h
    obtain ⟨a, ns, rfl, _⟩ := h
    rfl
  · unfold spLaw at h
    obtain ⟨sa, sc, rfl, hs, hsl, q⟩ := h
    refine ⟨_, (pss_cons (ps_set (i := 1) sc_law.nd rfl (Or.inl rfl) (pe_cal C__law_theory (hr.mono (by decide)) (pa_cons (pe_cal C__law_source (hr.mono (by decide)) (pa_cons (pv 0) (pa_cons pe_int pa_nil))) pa_nil)))
    (pss_cons (ps_set (i := 2) sc_law.nd rfl (Or.inl rfl) (pe_cal C__law_source (hr.mono (by decide)) (pa_cons (pv 0) (pa_cons pe_int pa_nil))))
    (pss_cons (ps_for PassesOwn.never rfl (pi_range1 (by rfl) m_range (pa_cons pe_int pa_nil)) (pg_name (i := 3) sc_law.nd rfl (Or.inl rfl))
      (pss_one (ps_if (PW.pt (pw_or (pt_not (pt_val (pe_cal C__law_valid_right (hr.mono (by decide)) (pa_cons (pv 2) (pa_cons (pe_ix ix_tup (pv 1) pe_int (fun _ _ => rfl)) pa_nil))))) (pw_or1 (pt_not (pt_val (pe_cal C__law_holds_right (hr.mono (by decide)) (pa_cons (pv 2) (pa_cons (pe_ix ix_tup (pv 1) pe_int (fun _ _ => rfl)) pa_nil))))))))
      (pss_one (ps_ret pe_bl))
      pss_nil)))
    (pss_cons (ps_if (pt_cmpR (op_neD hr.units) (pe_mth0 M_contradiction (hr.mono (by decide)) (Mk0.pe_bare B_Steps) (ht := mcall_of (abase_call (by decide +kernel)) (fun _ => rfl))) (pe_tup (pa_cons pe_str (pa_cons pe_str (pa_cons (pe_un un_neg pe_int) pa_nil)))) (nomark _))
      (pss_one (ps_ret pe_bl))
      pss_nil)
    (pss_cons (ps_set (i := 2) sc_law.nd rfl (Or.inl rfl) (pe_cal C__law_source (hr.mono (by decide)) (pa_cons (pv 0) (pa_cons pe_int pa_nil))))
    (pss_cons (ps_if (PW.pt (pw_or (pt_not (pt_val (pe_cal C__law_rename_right (hr.mono (by decide)) (pa_cons (pv 2) (pa_cons (pv 1) pa_nil))))) (pw_or1 (pt_not (pt_val (pe_cal C__law_pin_right (hr.mono (by decide)) (pa_cons (pv 2) (pa_cons (pe_ix ix_tup (pv 1) pe_int (fun _ _ => rfl)) pa_nil))))))))
      (pss_one (ps_ret pe_bl))
      pss_nil)
    (pss_one (ps_ret (pe_and (pe_cal C__law_ground_right (hr.mono (by decide)) (pa_cons (pv 2) pa_nil)) (pe_one (pe_cal C__law_lift_right (hr.mono (by decide)) (pa_cons (pe_cal C__law_source (hr.mono (by decide)) (pa_cons (pv 0) (pa_cons pe_int pa_nil))) (pa_cons (pv 1) pa_nil))))))))))))), ?_⟩
    walk_at "rd"
    refine ⟨sa, sc, 0, rfl, hs, by decide, fun s0 n0 c0 ns0 => ?_⟩
    have u0 := same_new ns0 (o := .lst [.int n0, .int c0])
    have hA0 : Src (upd H s0 (.lst [.int n0, .int c0])) s0 := ⟨n0, c0, upd_same⟩
    generalize upd H s0 (.lst [.int n0, .int c0]) = H0 at u0 hA0 ⊢
    walk_at "rd"
    show spTheory K _ _ _ _
    unfold spTheory
    refine ⟨s0, rfl, hA0, fun T ns cs H1 b1 hA1 hth hsub hcl hin => ?_⟩
    obtain ⟨na, ca, xs, th1⟩ := hth
    have o8 := ok8_of hsub
    have S1 := SameBut.same u0 ns0 b1
    have hs1 := S1.seq hs
    clear u0 hA0 b1 hA1 S1 ns0
    walk_at "rd"
    refine ⟨sa, sc, 1, rfl, hs1, by decide, fun s2 n2 c2 ns2 => ?_⟩
    have u2 := same_new ns2 (o := .lst [.int n2, .int c2])
    have hA2 : Src (upd H1 s2 (.lst [.int n2, .int c2])) s2 := ⟨n2, c2, upd_same⟩
    generalize upd H1 s2 (.lst [.int n2, .int c2]) = H2 at u2 hA2 ⊢
    walk_at "rd"
    refine ⟨by decide, by decide, ?_⟩
    refine for_it walk_range (fun i σ H' => ∃ o3 : Option V, σ = [some (.ref sa), some (.ref T), some (.ref s2), o3] ∧ Same H1 H' ∧ Src H' s2) ⟨none, rfl, u2, hA2⟩ (fun _ _ _ _ _ => trivial) ?_ ?_
    · rintro i v σ H3 H3' hi ⟨o3, rfl, u3, hA3⟩ ⟨rfl, rfl⟩
      have th3 := th1.same u3
      walk_at "rd"
      refine ⟨_, _, _, _, rfl, rfl, th3.t, atI_nat (j := 0) rfl, ?_⟩
      walk_at "rd"
      show spVR K _ _ _ _
      unfold spVR
      refine ⟨s2, na, ns, rfl, hA3, th3.n, o8.len, o8.ok, fun H4 b4 hA4 => ?_⟩
      have u4 := SameBut.same u3 ns2 b4
      have th4 := th1.same u4
      walk_at "rd"
      refine ⟨_, _, _, _, rfl, rfl, th4.t, atI_nat (j := 0) rfl, ?_⟩
      walk_at "rd"
      show spNm K _ _ _ _
      unfold spNm
      refine ⟨s2, na, ns, rfl, hA4, th4.n, o8, fun H5 b5 hA5 => ?_⟩
      have u5 := SameBut.same u4 ns2 b5
      walk_at "rd"
      exact ⟨u5, hA5⟩
    rintro σ H3 ⟨o3, rfl, u3, hA3⟩
    have th3 := th1.same u3
    have hs3 := u3.seq hs1
    clear u2 hA2 u3 hA3 ns2 th1 hs1
    walk_at "rd"
    refine fun k dk nk ndk ne => ?_
    obtain ⟨u4, hk⟩ := bare_new (C := C) nk ndk ne
    generalize upd (upd H3 dk (.own k)) k (.ins C dk []) = H4 at u4 hk ⊢
    refine ⟨k, dk, [], rfl, hk, rfl, ?_⟩
    walk_at "rd"
    show spContra K _ _ _ _
    unfold spContra
    refine ⟨k, rfl, fun r H5 u5 hr5 => ?_⟩
    have u45 := Same.trans u4 u5
    walk_at "rd"
    refine ⟨sz (by show 3 ≤ 100000; decide), fun p np => ?_⟩
    have u6 := same_new np (o := .tup [.str emp, .str emp, .int (-1)])
    have hp := upd_same (H := H5) (a := p) (o := .tup [.str emp, .str emp, .int (-1)])
    have ly : Lay 1 (ctD (emp, emp, -1)) := lay_ctr ok_emp ok_emp
    refine ⟨ctD (emp, emp, -1), ctD (emp, emp, -1), dp_ctr (c := (emp, emp, -1)) (sqt (u6 _ _ hr5)), dp_ctr (c := (emp, emp, -1)) (sqt hp), shape ly (by decide), shape ly (by decide), ?_⟩
    rw [eq_refl ly]
    have u46 := Same.trans u45 u6
    generalize upd H5 p _ = H6 at u46 ⊢
    have th6 := th3.same u46
    have hs6 := u46.seq hs3
    walk_at "rd"
    refine ⟨sa, sc, 2, rfl, hs6, by decide, fun s4 n4 c4 ns4 => ?_⟩
    have u7 := same_new ns4 (o := .lst [.int n4, .int c4])
    have hA7 : Src (upd H6 s4 (.lst [.int n4, .int c4])) s4 := ⟨n4, c4, upd_same⟩
    generalize upd H6 s4 (.lst [.int n4, .int c4]) = H7 at u7 hA7 ⊢
    walk_at "rd"
    show spThR K _ _ _ _
    unfold spThR
    refine ⟨s4, T, na, ca, xs, ns, cs, rfl, hA7, th6.same u7, o8, hcl, hin, fun H8 b8 hA8 => ?_⟩
    have u8 := SameBut.same u7 ns4 b8
    have th8 := th6.same u8
    walk_at "rd"
    refine ⟨_, _, _, _, rfl, rfl, th8.t, atI_nat (j := 0) rfl, ?_⟩
    walk_at "rd"
    show spNm K _ _ _ _
    unfold spNm
    refine ⟨s4, na, ns, rfl, hA8, th8.n, o8, fun H9 b9 hA9 => ?_⟩
    have u9 := SameBut.same u8 ns4 b9
    walk_at "rd"
    show spRt K _ _ _ _
    unfold spRt
    refine ⟨s4, rfl, hA9, fun H10 b10 hA10 => ?_⟩
    have u10 := SameBut.same u9 ns4 b10
    have th10 := th6.same u10
    have hs10 := u10.seq hs6
    walk_at "rd"
    refine ⟨sa, sc, 3, rfl, hs10, by decide, fun s5 n5 c5 ns5 => ?_⟩
    have u11 := same_new ns5 (o := .lst [.int n5, .int c5])
    have hA11 : Src (upd H10 s5 (.lst [.int n5, .int c5])) s5 := ⟨n5, c5, upd_same⟩
    generalize upd H10 s5 (.lst [.int n5, .int c5]) = H11 at u11 hA11 ⊢
    walk_at "rd"
    refine ⟨s5, T, na, ca, xs, ns, cs, rfl, hA11, th10.same u11, o8, hcl, hin, fun H12 b12 hA12 => ?_⟩
    exact q _
end
end K14
namespace K14
open PySem PySem.Spec PyProof.Rows L2 Bx TL Dx Zx Ow Sup NdefX Px
theorem kit_t {K : PySem.W.Frag} {C D : Addr} {cd : ClassData} (c : PySem.W.clsIn K D = some cd) (t : PySem.W.typeIn K (.ref D) = some (.type "type")) (s : PySem.W.subIn K (.ref C) (.ref D) = some true) : PySem.W.kitOne K (.ref C) (.ref D) = some true := by
  unfold PySem.W.kitOne PySem.W.kitCls
  split
  · rfl
  · show (if ((PySem.W.clsIn K D).isSome && PySem.W.typeIn K (.ref D) == some (.type "type")) = true then PySem.W.subIn K (.ref C) (.ref D) else none) = _
    rw [if_pos (by rw [c, t]; rfl)]
    exact s
theorem kit_exm {K : PySem.W.Frag} {C : Addr} {cd : ClassData} (b : PySem.W.subIn K (.ref C) (.type "BaseException") = some true) (c : PySem.W.clsIn K C = some cd) (t : PySem.W.typeIn K (.ref C) = some (.type "type")) (s : PySem.W.subIn K (.ref C) (.ref C) = some true) : PySem.W.exmOne K (.ref C) (.ref C) = some true := by
  show (if (PySem.W.subIn K (.ref C) (.type "BaseException") == some true) = true then (if ((PySem.W.clsIn K C).isSome && PySem.W.typeIn K (.ref C) == some (.type "type")) = true then PySem.W.subIn K (.ref C) (.ref C) else none) else none) = _
  rw [if_pos (by rw [b]; rfl), if_pos (by rw [c, t]; rfl)]
  exact s
set_option maxHeartbeats 4000000 in
theorem all_mk {l : PySem.W.OpenLaw} {w : World} {K : PySem.W.Frag} {h : Heap} {mg : Str → Option Value} {fa : Addr} (X : K.In h) (G : h.Ns mainGlobals mg) (hfa : mg "law" = some (.ref fa))
    {C CF SE CK : Addr} {cdC cdF cdS : ClassData}
    {f_kind : Addr} {oc_kind kV_kind dc_kind pm_kind cd_kind ct_kind : Value} {od_kind an_kind : Option Addr} {sl_kind : Array (Option Value)}
    {fV ccV cdaV : Addr} {ocV kVV dcV pmV ctV clV cclV : Value} {odV anV cldV cddV : Option Addr} {oslV cslV ccsV : Array (Option Value)} {vsV : Array Value} {fileV : Str} {tfV : Tok}
    {f_Mnames_in : Addr} {oc_Mnames_in kV_Mnames_in dc_Mnames_in pm_Mnames_in cd_Mnames_in ct_Mnames_in : Value} {od_Mnames_in an_Mnames_in : Option Addr} {sl_Mnames_in : Array (Option Value)}
    {f_Mholds : Addr} {oc_Mholds kV_Mholds dc_Mholds pm_Mholds cd_Mholds ct_Mholds : Value} {od_Mholds an_Mholds : Option Addr} {sl_Mholds : Array (Option Value)}
    {f_Mcontradiction : Addr} {oc_Mcontradiction kV_Mcontradiction dc_Mcontradiction pm_Mcontradiction cd_Mcontradiction ct_Mcontradiction : Value} {od_Mcontradiction an_Mcontradiction : Option Addr} {sl_Mcontradiction : Array (Option Value)}
    {f_Mrename : Addr} {oc_Mrename kV_Mrename dc_Mrename pm_Mrename cd_Mrename ct_Mrename : Value} {od_Mrename an_Mrename : Option Addr} {sl_Mrename : Array (Option Value)}
    {f_Mground : Addr} {oc_Mground kV_Mground dc_Mground pm_Mground cd_Mground ct_Mground : Value} {od_Mground an_Mground : Option Addr} {sl_Mground : Array (Option Value)}
    {f_Mpin : Addr} {oc_Mpin kV_Mpin dc_Mpin pm_Mpin cd_Mpin ct_Mpin : Value} {od_Mpin an_Mpin : Option Addr} {sl_Mpin : Array (Option Value)}
    {f_Mlift : Addr} {oc_Mlift kV_Mlift dc_Mlift pm_Mlift cd_Mlift ct_Mlift : Value} {od_Mlift an_Mlift : Option Addr} {sl_Mlift : Array (Option Value)}
    {f__value : Addr} {oc__value kV__value dc__value pm__value cd__value ct__value : Value} {od__value an__value : Option Addr} {sl__value : Array (Option Value)}
    {f_replace_names : Addr} {oc_replace_names kV_replace_names dc_replace_names pm_replace_names cd_replace_names ct_replace_names : Value} {od_replace_names an_replace_names : Option Addr} {sl_replace_names : Array (Option Value)}
    {f_merge_names : Addr} {oc_merge_names kV_merge_names dc_merge_names pm_merge_names cd_merge_names ct_merge_names : Value} {od_merge_names an_merge_names : Option Addr} {sl_merge_names : Array (Option Value)}
    {f_satisfies : Addr} {oc_satisfies kV_satisfies dc_satisfies pm_satisfies cd_satisfies ct_satisfies : Value} {od_satisfies an_satisfies : Option Addr} {sl_satisfies : Array (Option Value)}
    {f__law_source : Addr} {oc__law_source kV__law_source dc__law_source pm__law_source cd__law_source ct__law_source : Value} {od__law_source an__law_source : Option Addr} {sl__law_source : Array (Option Value)}
    {f__law_draw : Addr} {oc__law_draw kV__law_draw dc__law_draw pm__law_draw cd__law_draw ct__law_draw : Value} {od__law_draw an__law_draw : Option Addr} {sl__law_draw : Array (Option Value)}
    {f__law_some : Addr} {oc__law_some kV__law_some dc__law_some pm__law_some cd__law_some ct__law_some : Value} {od__law_some an__law_some : Option Addr} {sl__law_some : Array (Option Value)}
    {f__law_bound : Addr} {oc__law_bound kV__law_bound dc__law_bound pm__law_bound cd__law_bound ct__law_bound : Value} {od__law_bound an__law_bound : Option Addr} {sl__law_bound : Array (Option Value)}
    {f__law_constraint : Addr} {oc__law_constraint kV__law_constraint dc__law_constraint pm__law_constraint cd__law_constraint ct__law_constraint : Value} {od__law_constraint an__law_constraint : Option Addr} {sl__law_constraint : Array (Option Value)}
    {f__law_theory : Addr} {oc__law_theory kV__law_theory dc__law_theory pm__law_theory cd__law_theory ct__law_theory : Value} {od__law_theory an__law_theory : Option Addr} {sl__law_theory : Array (Option Value)}
    {f__law_value : Addr} {oc__law_value kV__law_value dc__law_value pm__law_value cd__law_value ct__law_value : Value} {od__law_value an__law_value : Option Addr} {sl__law_value : Array (Option Value)}
    {f__law_same : Addr} {oc__law_same kV__law_same dc__law_same pm__law_same cd__law_same ct__law_same : Value} {od__law_same an__law_same : Option Addr} {sl__law_same : Array (Option Value)}
    {f__law_valid_right : Addr} {oc__law_valid_right kV__law_valid_right dc__law_valid_right pm__law_valid_right cd__law_valid_right ct__law_valid_right : Value} {od__law_valid_right an__law_valid_right : Option Addr} {sl__law_valid_right : Array (Option Value)}
    {f__law_holds_right : Addr} {oc__law_holds_right kV__law_holds_right dc__law_holds_right pm__law_holds_right cd__law_holds_right ct__law_holds_right : Value} {od__law_holds_right an__law_holds_right : Option Addr} {sl__law_holds_right : Array (Option Value)}
    {f__law_rename_right : Addr} {oc__law_rename_right kV__law_rename_right dc__law_rename_right pm__law_rename_right cd__law_rename_right ct__law_rename_right : Value} {od__law_rename_right an__law_rename_right : Option Addr} {sl__law_rename_right : Array (Option Value)}
    {f__law_pin_right : Addr} {oc__law_pin_right kV__law_pin_right dc__law_pin_right pm__law_pin_right cd__law_pin_right ct__law_pin_right : Value} {od__law_pin_right an__law_pin_right : Option Addr} {sl__law_pin_right : Array (Option Value)}
    {f__law_ground_right : Addr} {oc__law_ground_right kV__law_ground_right dc__law_ground_right pm__law_ground_right cd__law_ground_right ct__law_ground_right : Value} {od__law_ground_right an__law_ground_right : Option Addr} {sl__law_ground_right : Array (Option Value)}
    {f__law_first : Addr} {oc__law_first kV__law_first dc__law_first pm__law_first cd__law_first ct__law_first : Value} {od__law_first an__law_first : Option Addr} {sl__law_first : Array (Option Value)}
    {f__law_lifted : Addr} {oc__law_lifted kV__law_lifted dc__law_lifted pm__law_lifted cd__law_lifted ct__law_lifted : Value} {od__law_lifted an__law_lifted : Option Addr} {sl__law_lifted : Array (Option Value)}
    {f__law_lift_right : Addr} {oc__law_lift_right kV__law_lift_right dc__law_lift_right pm__law_lift_right cd__law_lift_right ct__law_lift_right : Value} {od__law_lift_right an__law_lift_right : Option Addr} {sl__law_lift_right : Array (Option Value)}
    {f_law : Addr} {oc_law kV_law dc_law pm_law cd_law ct_law : Value} {od_law an_law : Option Addr} {sl_law : Array (Option Value)}
    (aC : PySem.W.nsIn K mainGlobals "Steps" = some (some (.ref C)))
    (aF : PySem.W.nsIn K mainGlobals "NoSolution" = some (some (.ref CF)))
    (aS : PySem.W.nsIn K mainGlobals "ShadowError" = some (some (.ref SE)))
    (aK : PySem.W.nsIn K mainGlobals "Kind" = some (some (.ref CK)))
    (pg : PySem.W.plainGet K C Str.empty = true)
    (hd : PySem.W.hasDictIn K C = true)
    (po : PySem.W.plainOver K C = true)
    (sa : PySem.W.findIn K (.ref C) "__setattr__" = some (some (.builtin "object.__setattr__")))
    (mk : PySem.W.makesIn K C = true)
    (kc : PySem.W.keepIn K (.ref C) = true)
    (ini : PySem.W.findIn K (.ref C) "__init__" = some (some (.builtin "object.__init__")))
    (xF : PySem.W.excIn K CF [.type "ValueError", .type "Exception", .type "BaseException", .type "object"] "ValueError.__new__" = true)
    (kF : PySem.W.keepIn K (.ref CF) = true)
    (bF : PySem.W.subIn K (.ref CF) (.type "BaseException") = some true)
    (tF : PySem.W.typeIn K (.ref CF) = some (.type "type"))
    (clF : PySem.W.clsIn K CF = some cdF)
    (clS : PySem.W.clsIn K SE = some cdS)
    (tS : PySem.W.typeIn K (.ref SE) = some (.type "type"))
    (ssF : PySem.W.subIn K (.ref CF) (.ref CF) = some true)
    (suS : PySem.W.subIn K (.ref CF) (.ref SE) = some true)
    (gaF : PySem.W.findIn K (.ref CF) "__getattribute__" = some (some (.builtin "BaseException.__getattribute__")))
    (ggF : PySem.W.findIn K (.ref CF) "__getattr__" = some none)
    (hdF : PySem.W.hasDictIn K CF = true)
    (gcF : PySem.W.findIn K (.ref CF) "__class__" = some (some (.builtin "object.__class__")))
    (sp_ : PySem.W.specialIn K (.builtin "object.__class__") "__get__" = some (some (.builtin "getset_descriptor.__get__")))
    (tk_ : PySem.W.takesIn K (.builtin "object.__class__") = some true)
    (moF : PySem.W.mroIn K CF (.type "object") = some true)
    (p_top : (l.prog.main.scope.names.lookup ("super" : Str)).isSome = false)
    (z_super : PySem.W.nsIn K mainGlobals "super" = some none)
    (any_ : PySem.W.nsIn K cStatics "thirdparty.any" = some none)
    (a_kind : PySem.W.findIn K (.ref CK) "is_valid" = some (some (.ref f_kind))) (l_kind : K.lookup f_kind = some ⟨oc_kind, od_kind, .func (PySem.W.fnOf "is_valid" "Kind.is_valid" (defArgs s_Kind_is_valid) (defBody s_Kind_is_valid) (defScope s_Kind_is_valid) .none kV_kind dc_kind pm_kind an_kind cd_kind ct_kind), sl_kind⟩) (c_kind : PySem.W.codeIn K cd_kind "Kind.is_valid" = true) (k_kind : PySem.W.keepIn K (.ref f_kind) = true)
    (cdC_ : PySem.W.clsIn K C = some cdC)
    (mC : PySem.W.mroIn K C (.ref C) = some true)
    (sC : PySem.W.ks_superIn K C C "is_valid" = some (some (.ref f_kind)))
    (tg : PySem.W.typeIn K (.ref f_kind) = some (.type "function"))
    (fg : PySem.W.fnIn K f_kind = true)
    (i_V : PySem.W.findIn K (.ref C) "is_valid" = some (some (.ref fV)))
    (l_V : K.lookup fV = some ⟨ocV, odV, .func (PySem.W.fnX "is_valid" "Steps.is_valid" (defArgs s_Steps_is_valid) (defBody s_Steps_is_valid) (defScope s_Steps_is_valid) [(("__class__" : Str), ccV)] .none kVV dcV pmV anV (.ref cdaV) ctV), oslV⟩)
    (c_V : PySem.W.codeIn K (.ref cdaV) "Steps.is_valid" = true)
    (l_ccV : K.lookup ccV = some ⟨clV, cldV, .cell (some (.ref C)), cslV⟩)
    (l_cdaV : K.lookup cdaV = some ⟨cclV, cddV, .fields vsV, ccsV⟩)
    (v_cdaV : vsV[2]? = some (.str fileV tfV))
    (p_fileV : ((l.prog.main.file : Str) == fileV) = true)
    (iV : PySem.W.isFn K (.ref fV) = true)
    (kV_ : PySem.W.keepIn K (.ref fV) = true)
    (a_Mnames_in : PySem.W.findIn K (.ref C) "names_in" = some (some (.ref f_Mnames_in))) (l_Mnames_in : K.lookup f_Mnames_in = some ⟨oc_Mnames_in, od_Mnames_in, .func (PySem.W.fnOf "names_in" "Steps.names_in" (defArgs s_Steps_names_in) (defBody s_Steps_names_in) (defScope s_Steps_names_in) .none kV_Mnames_in dc_Mnames_in pm_Mnames_in an_Mnames_in cd_Mnames_in ct_Mnames_in), sl_Mnames_in⟩) (c_Mnames_in : PySem.W.codeIn K cd_Mnames_in "Steps.names_in" = true) (k_Mnames_in : PySem.W.keepIn K (.ref f_Mnames_in) = true)
    (i_Mnames_in : PySem.W.isFn K (.ref f_Mnames_in) = true)
    (a_Mholds : PySem.W.findIn K (.ref C) "holds" = some (some (.ref f_Mholds))) (l_Mholds : K.lookup f_Mholds = some ⟨oc_Mholds, od_Mholds, .func (PySem.W.fnOf "holds" "Steps.holds" (defArgs s_Steps_holds) (defBody s_Steps_holds) (defScope s_Steps_holds) .none kV_Mholds dc_Mholds pm_Mholds an_Mholds cd_Mholds ct_Mholds), sl_Mholds⟩) (c_Mholds : PySem.W.codeIn K cd_Mholds "Steps.holds" = true) (k_Mholds : PySem.W.keepIn K (.ref f_Mholds) = true)
    (i_Mholds : PySem.W.isFn K (.ref f_Mholds) = true)
    (a_Mcontradiction : PySem.W.findIn K (.ref C) "contradiction" = some (some (.ref f_Mcontradiction))) (l_Mcontradiction : K.lookup f_Mcontradiction = some ⟨oc_Mcontradiction, od_Mcontradiction, .func (PySem.W.fnOf "contradiction" "Steps.contradiction" (defArgs s_Steps_contradiction) (defBody s_Steps_contradiction) (defScope s_Steps_contradiction) .none kV_Mcontradiction dc_Mcontradiction pm_Mcontradiction an_Mcontradiction cd_Mcontradiction ct_Mcontradiction), sl_Mcontradiction⟩) (c_Mcontradiction : PySem.W.codeIn K cd_Mcontradiction "Steps.contradiction" = true) (k_Mcontradiction : PySem.W.keepIn K (.ref f_Mcontradiction) = true)
    (i_Mcontradiction : PySem.W.isFn K (.ref f_Mcontradiction) = true)
    (a_Mrename : PySem.W.findIn K (.ref C) "rename" = some (some (.ref f_Mrename))) (l_Mrename : K.lookup f_Mrename = some ⟨oc_Mrename, od_Mrename, .func (PySem.W.fnOf "rename" "Steps.rename" (defArgs s_Steps_rename) (defBody s_Steps_rename) (defScope s_Steps_rename) .none kV_Mrename dc_Mrename pm_Mrename an_Mrename cd_Mrename ct_Mrename), sl_Mrename⟩) (c_Mrename : PySem.W.codeIn K cd_Mrename "Steps.rename" = true) (k_Mrename : PySem.W.keepIn K (.ref f_Mrename) = true)
    (i_Mrename : PySem.W.isFn K (.ref f_Mrename) = true)
    (a_Mground : PySem.W.findIn K (.ref C) "ground" = some (some (.ref f_Mground))) (l_Mground : K.lookup f_Mground = some ⟨oc_Mground, od_Mground, .func (PySem.W.fnOf "ground" "Steps.ground" (defArgs s_Steps_ground) (defBody s_Steps_ground) (defScope s_Steps_ground) .none kV_Mground dc_Mground pm_Mground an_Mground cd_Mground ct_Mground), sl_Mground⟩) (c_Mground : PySem.W.codeIn K cd_Mground "Steps.ground" = true) (k_Mground : PySem.W.keepIn K (.ref f_Mground) = true)
    (i_Mground : PySem.W.isFn K (.ref f_Mground) = true)
    (a_Mpin : PySem.W.findIn K (.ref C) "pin" = some (some (.ref f_Mpin))) (l_Mpin : K.lookup f_Mpin = some ⟨oc_Mpin, od_Mpin, .func (PySem.W.fnOf "pin" "Steps.pin" (defArgs s_Steps_pin) (defBody s_Steps_pin) (defScope s_Steps_pin) .none kV_Mpin dc_Mpin pm_Mpin an_Mpin cd_Mpin ct_Mpin), sl_Mpin⟩) (c_Mpin : PySem.W.codeIn K cd_Mpin "Steps.pin" = true) (k_Mpin : PySem.W.keepIn K (.ref f_Mpin) = true)
    (i_Mpin : PySem.W.isFn K (.ref f_Mpin) = true)
    (a_Mlift : PySem.W.findIn K (.ref C) "lift" = some (some (.ref f_Mlift))) (l_Mlift : K.lookup f_Mlift = some ⟨oc_Mlift, od_Mlift, .func (PySem.W.fnOf "lift" "Steps.lift" (defArgs s_Steps_lift) (defBody s_Steps_lift) (defScope s_Steps_lift) .none kV_Mlift dc_Mlift pm_Mlift an_Mlift cd_Mlift ct_Mlift), sl_Mlift⟩) (c_Mlift : PySem.W.codeIn K cd_Mlift "Steps.lift" = true) (k_Mlift : PySem.W.keepIn K (.ref f_Mlift) = true)
    (i_Mlift : PySem.W.isFn K (.ref f_Mlift) = true)
    (a__value : PySem.W.nsIn K mainGlobals "_value" = some (some (.ref f__value))) (l__value : K.lookup f__value = some ⟨oc__value, od__value, .func (PySem.W.fnOf "_value" "_value" (defArgs s__value) (defBody s__value) (defScope s__value) .none kV__value dc__value pm__value an__value cd__value ct__value), sl__value⟩) (c__value : PySem.W.codeIn K cd__value "_value" = true) (k__value : PySem.W.keepIn K (.ref f__value) = true)
    (a_replace_names : PySem.W.nsIn K mainGlobals "replace_names" = some (some (.ref f_replace_names))) (l_replace_names : K.lookup f_replace_names = some ⟨oc_replace_names, od_replace_names, .func (PySem.W.fnOf "replace_names" "replace_names" (defArgs s_replace_names) (defBody s_replace_names) (defScope s_replace_names) .none kV_replace_names dc_replace_names pm_replace_names an_replace_names cd_replace_names ct_replace_names), sl_replace_names⟩) (c_replace_names : PySem.W.codeIn K cd_replace_names "replace_names" = true) (k_replace_names : PySem.W.keepIn K (.ref f_replace_names) = true)
    (a_merge_names : PySem.W.nsIn K mainGlobals "merge_names" = some (some (.ref f_merge_names))) (l_merge_names : K.lookup f_merge_names = some ⟨oc_merge_names, od_merge_names, .func (PySem.W.fnOf "merge_names" "merge_names" (defArgs s_merge_names) (defBody s_merge_names) (defScope s_merge_names) .none kV_merge_names dc_merge_names pm_merge_names an_merge_names cd_merge_names ct_merge_names), sl_merge_names⟩) (c_merge_names : PySem.W.codeIn K cd_merge_names "merge_names" = true) (k_merge_names : PySem.W.keepIn K (.ref f_merge_names) = true)
    (a_satisfies : PySem.W.nsIn K mainGlobals "satisfies" = some (some (.ref f_satisfies))) (l_satisfies : K.lookup f_satisfies = some ⟨oc_satisfies, od_satisfies, .func (PySem.W.fnOf "satisfies" "satisfies" (defArgs s_satisfies) (defBody s_satisfies) (defScope s_satisfies) .none kV_satisfies dc_satisfies pm_satisfies an_satisfies cd_satisfies ct_satisfies), sl_satisfies⟩) (c_satisfies : PySem.W.codeIn K cd_satisfies "satisfies" = true) (k_satisfies : PySem.W.keepIn K (.ref f_satisfies) = true)
    (a__law_source : PySem.W.nsIn K mainGlobals "_law_source" = some (some (.ref f__law_source))) (l__law_source : K.lookup f__law_source = some ⟨oc__law_source, od__law_source, .func (PySem.W.fnOf "_law_source" "_law_source" (defArgs s__law_source) (defBody s__law_source) (defScope s__law_source) .none kV__law_source dc__law_source pm__law_source an__law_source cd__law_source ct__law_source), sl__law_source⟩) (c__law_source : PySem.W.codeIn K cd__law_source "_law_source" = true) (k__law_source : PySem.W.keepIn K (.ref f__law_source) = true)
    (a__law_draw : PySem.W.nsIn K mainGlobals "_law_draw" = some (some (.ref f__law_draw))) (l__law_draw : K.lookup f__law_draw = some ⟨oc__law_draw, od__law_draw, .func (PySem.W.fnOf "_law_draw" "_law_draw" (defArgs s__law_draw) (defBody s__law_draw) (defScope s__law_draw) .none kV__law_draw dc__law_draw pm__law_draw an__law_draw cd__law_draw ct__law_draw), sl__law_draw⟩) (c__law_draw : PySem.W.codeIn K cd__law_draw "_law_draw" = true) (k__law_draw : PySem.W.keepIn K (.ref f__law_draw) = true)
    (a__law_some : PySem.W.nsIn K mainGlobals "_law_some" = some (some (.ref f__law_some))) (l__law_some : K.lookup f__law_some = some ⟨oc__law_some, od__law_some, .func (PySem.W.fnOf "_law_some" "_law_some" (defArgs s__law_some) (defBody s__law_some) (defScope s__law_some) .none kV__law_some dc__law_some pm__law_some an__law_some cd__law_some ct__law_some), sl__law_some⟩) (c__law_some : PySem.W.codeIn K cd__law_some "_law_some" = true) (k__law_some : PySem.W.keepIn K (.ref f__law_some) = true)
    (a__law_bound : PySem.W.nsIn K mainGlobals "_law_bound" = some (some (.ref f__law_bound))) (l__law_bound : K.lookup f__law_bound = some ⟨oc__law_bound, od__law_bound, .func (PySem.W.fnOf "_law_bound" "_law_bound" (defArgs s__law_bound) (defBody s__law_bound) (defScope s__law_bound) .none kV__law_bound dc__law_bound pm__law_bound an__law_bound cd__law_bound ct__law_bound), sl__law_bound⟩) (c__law_bound : PySem.W.codeIn K cd__law_bound "_law_bound" = true) (k__law_bound : PySem.W.keepIn K (.ref f__law_bound) = true)
    (a__law_constraint : PySem.W.nsIn K mainGlobals "_law_constraint" = some (some (.ref f__law_constraint))) (l__law_constraint : K.lookup f__law_constraint = some ⟨oc__law_constraint, od__law_constraint, .func (PySem.W.fnOf "_law_constraint" "_law_constraint" (defArgs s__law_constraint) (defBody s__law_constraint) (defScope s__law_constraint) .none kV__law_constraint dc__law_constraint pm__law_constraint an__law_constraint cd__law_constraint ct__law_constraint), sl__law_constraint⟩) (c__law_constraint : PySem.W.codeIn K cd__law_constraint "_law_constraint" = true) (k__law_constraint : PySem.W.keepIn K (.ref f__law_constraint) = true)
    (a__law_theory : PySem.W.nsIn K mainGlobals "_law_theory" = some (some (.ref f__law_theory))) (l__law_theory : K.lookup f__law_theory = some ⟨oc__law_theory, od__law_theory, .func (PySem.W.fnOf "_law_theory" "_law_theory" (defArgs s__law_theory) (defBody s__law_theory) (defScope s__law_theory) .none kV__law_theory dc__law_theory pm__law_theory an__law_theory cd__law_theory ct__law_theory), sl__law_theory⟩) (c__law_theory : PySem.W.codeIn K cd__law_theory "_law_theory" = true) (k__law_theory : PySem.W.keepIn K (.ref f__law_theory) = true)
    (a__law_value : PySem.W.nsIn K mainGlobals "_law_value" = some (some (.ref f__law_value))) (l__law_value : K.lookup f__law_value = some ⟨oc__law_value, od__law_value, .func (PySem.W.fnOf "_law_value" "_law_value" (defArgs s__law_value) (defBody s__law_value) (defScope s__law_value) .none kV__law_value dc__law_value pm__law_value an__law_value cd__law_value ct__law_value), sl__law_value⟩) (c__law_value : PySem.W.codeIn K cd__law_value "_law_value" = true) (k__law_value : PySem.W.keepIn K (.ref f__law_value) = true)
    (a__law_same : PySem.W.nsIn K mainGlobals "_law_same" = some (some (.ref f__law_same))) (l__law_same : K.lookup f__law_same = some ⟨oc__law_same, od__law_same, .func (PySem.W.fnOf "_law_same" "_law_same" (defArgs s__law_same) (defBody s__law_same) (defScope s__law_same) .none kV__law_same dc__law_same pm__law_same an__law_same cd__law_same ct__law_same), sl__law_same⟩) (c__law_same : PySem.W.codeIn K cd__law_same "_law_same" = true) (k__law_same : PySem.W.keepIn K (.ref f__law_same) = true)
    (a__law_valid_right : PySem.W.nsIn K mainGlobals "_law_valid_right" = some (some (.ref f__law_valid_right))) (l__law_valid_right : K.lookup f__law_valid_right = some ⟨oc__law_valid_right, od__law_valid_right, .func (PySem.W.fnOf "_law_valid_right" "_law_valid_right" (defArgs s__law_valid_right) (defBody s__law_valid_right) (defScope s__law_valid_right) .none kV__law_valid_right dc__law_valid_right pm__law_valid_right an__law_valid_right cd__law_valid_right ct__law_valid_right), sl__law_valid_right⟩) (c__law_valid_right : PySem.W.codeIn K cd__law_valid_right "_law_valid_right" = true) (k__law_valid_right : PySem.W.keepIn K (.ref f__law_valid_right) = true)
    (a__law_holds_right : PySem.W.nsIn K mainGlobals "_law_holds_right" = some (some (.ref f__law_holds_right))) (l__law_holds_right : K.lookup f__law_holds_right = some ⟨oc__law_holds_right, od__law_holds_right, .func (PySem.W.fnOf "_law_holds_right" "_law_holds_right" (defArgs s__law_holds_right) (defBody s__law_holds_right) (defScope s__law_holds_right) .none kV__law_holds_right dc__law_holds_right pm__law_holds_right an__law_holds_right cd__law_holds_right ct__law_holds_right), sl__law_holds_right⟩) (c__law_holds_right : PySem.W.codeIn K cd__law_holds_right "_law_holds_right" = true) (k__law_holds_right : PySem.W.keepIn K (.ref f__law_holds_right) = true)
    (a__law_rename_right : PySem.W.nsIn K mainGlobals "_law_rename_right" = some (some (.ref f__law_rename_right))) (l__law_rename_right : K.lookup f__law_rename_right = some ⟨oc__law_rename_right, od__law_rename_right, .func (PySem.W.fnOf "_law_rename_right" "_law_rename_right" (defArgs s__law_rename_right) (defBody s__law_rename_right) (defScope s__law_rename_right) .none kV__law_rename_right dc__law_rename_right pm__law_rename_right an__law_rename_right cd__law_rename_right ct__law_rename_right), sl__law_rename_right⟩) (c__law_rename_right : PySem.W.codeIn K cd__law_rename_right "_law_rename_right" = true) (k__law_rename_right : PySem.W.keepIn K (.ref f__law_rename_right) = true)
    (a__law_pin_right : PySem.W.nsIn K mainGlobals "_law_pin_right" = some (some (.ref f__law_pin_right))) (l__law_pin_right : K.lookup f__law_pin_right = some ⟨oc__law_pin_right, od__law_pin_right, .func (PySem.W.fnOf "_law_pin_right" "_law_pin_right" (defArgs s__law_pin_right) (defBody s__law_pin_right) (defScope s__law_pin_right) .none kV__law_pin_right dc__law_pin_right pm__law_pin_right an__law_pin_right cd__law_pin_right ct__law_pin_right), sl__law_pin_right⟩) (c__law_pin_right : PySem.W.codeIn K cd__law_pin_right "_law_pin_right" = true) (k__law_pin_right : PySem.W.keepIn K (.ref f__law_pin_right) = true)
    (a__law_ground_right : PySem.W.nsIn K mainGlobals "_law_ground_right" = some (some (.ref f__law_ground_right))) (l__law_ground_right : K.lookup f__law_ground_right = some ⟨oc__law_ground_right, od__law_ground_right, .func (PySem.W.fnOf "_law_ground_right" "_law_ground_right" (defArgs s__law_ground_right) (defBody s__law_ground_right) (defScope s__law_ground_right) .none kV__law_ground_right dc__law_ground_right pm__law_ground_right an__law_ground_right cd__law_ground_right ct__law_ground_right), sl__law_ground_right⟩) (c__law_ground_right : PySem.W.codeIn K cd__law_ground_right "_law_ground_right" = true) (k__law_ground_right : PySem.W.keepIn K (.ref f__law_ground_right) = true)
    (a__law_first : PySem.W.nsIn K mainGlobals "_law_first" = some (some (.ref f__law_first))) (l__law_first : K.lookup f__law_first = some ⟨oc__law_first, od__law_first, .func (PySem.W.fnOf "_law_first" "_law_first" (defArgs s__law_first) (defBody s__law_first) (defScope s__law_first) .none kV__law_first dc__law_first pm__law_first an__law_first cd__law_first ct__law_first), sl__law_first⟩) (c__law_first : PySem.W.codeIn K cd__law_first "_law_first" = true) (k__law_first : PySem.W.keepIn K (.ref f__law_first) = true)
    (a__law_lifted : PySem.W.nsIn K mainGlobals "_law_lifted" = some (some (.ref f__law_lifted))) (l__law_lifted : K.lookup f__law_lifted = some ⟨oc__law_lifted, od__law_lifted, .func (PySem.W.fnOf "_law_lifted" "_law_lifted" (defArgs s__law_lifted) (defBody s__law_lifted) (defScope s__law_lifted) .none kV__law_lifted dc__law_lifted pm__law_lifted an__law_lifted cd__law_lifted ct__law_lifted), sl__law_lifted⟩) (c__law_lifted : PySem.W.codeIn K cd__law_lifted "_law_lifted" = true) (k__law_lifted : PySem.W.keepIn K (.ref f__law_lifted) = true)
    (a__law_lift_right : PySem.W.nsIn K mainGlobals "_law_lift_right" = some (some (.ref f__law_lift_right))) (l__law_lift_right : K.lookup f__law_lift_right = some ⟨oc__law_lift_right, od__law_lift_right, .func (PySem.W.fnOf "_law_lift_right" "_law_lift_right" (defArgs s__law_lift_right) (defBody s__law_lift_right) (defScope s__law_lift_right) .none kV__law_lift_right dc__law_lift_right pm__law_lift_right an__law_lift_right cd__law_lift_right ct__law_lift_right), sl__law_lift_right⟩) (c__law_lift_right : PySem.W.codeIn K cd__law_lift_right "_law_lift_right" = true) (k__law_lift_right : PySem.W.keepIn K (.ref f__law_lift_right) = true)
    (a_law : PySem.W.nsIn K mainGlobals "law" = some (some (.ref f_law))) (l_law : K.lookup f_law = some ⟨oc_law, od_law, .func (PySem.W.fnOf "law" "law" (defArgs s_law) (defBody s_law) (defScope s_law) .none kV_law dc_law pm_law an_law cd_law ct_law), sl_law⟩) (c_law : PySem.W.codeIn K cd_law "law" = true) (k_law : PySem.W.keepIn K (.ref f_law) = true)
    (z_set : PySem.W.nsIn K mainGlobals "set" = some none)
    (z_sorted : PySem.W.nsIn K mainGlobals "sorted" = some none)
    (z_tuple : PySem.W.nsIn K mainGlobals "tuple" = some none)
    (z_all : PySem.W.nsIn K mainGlobals "all" = some none)
    (z_max : PySem.W.nsIn K mainGlobals "max" = some none)
    (z_min : PySem.W.nsIn K mainGlobals "min" = some none)
    (z_len : PySem.W.nsIn K mainGlobals "len" = some none)
    (z_int : PySem.W.nsIn K mainGlobals "int" = some none)
    (z_list : PySem.W.nsIn K mainGlobals "list" = some none)
    (z_range : PySem.W.nsIn K mainGlobals "range" = some none)
    (z_isinstance : PySem.W.nsIn K mainGlobals "isinstance" = some none)
    (z_dict : PySem.W.nsIn K mainGlobals "dict" = some none)
    (z_bool : PySem.W.nsIn K mainGlobals "bool" = some none)
    : ∃ fd : FuncData, (∀ (s : Shared) (v : Value), BindsTo s fd ⟨[v], []⟩ [("_law_script", v)]) ∧ ∀ base : Heap, K.In base → base.Ns mainGlobals mg → FnOk l.prog w K mg base CX0 8 fa fd ["_law_script"] (spLaw K) := by
  have e := hfa.symm.trans (PySem.W.mg_of X G a_law)
  cases e
  have F_kind := fun_mk (x := "is_valid") (qual := "Kind.is_valid") (st := s_Kind_is_valid) l_kind c_kind k_kind
  have b_kind := F_kind.binds (ps := ["self", "names", "constraint"]) fun _ _ _ _ _ _ us hl => match us, hl with | [_, _, _], _ => rfl
  have F_Mnames_in := fun_mk (x := "names_in") (qual := "Steps.names_in") (st := s_Steps_names_in) l_Mnames_in c_Mnames_in k_Mnames_in
  have b_Mnames_in := F_Mnames_in.binds (ps := ["self", "constraint"]) fun _ _ _ _ _ _ us hl => match us, hl with | [_, _], _ => rfl
  have F_Mholds := fun_mk (x := "holds") (qual := "Steps.holds") (st := s_Steps_holds) l_Mholds c_Mholds k_Mholds
  have b_Mholds := F_Mholds.binds (ps := ["self", "constraint", "assignment"]) fun _ _ _ _ _ _ us hl => match us, hl with | [_, _, _], _ => rfl
  have F_Mcontradiction := fun_mk (x := "contradiction") (qual := "Steps.contradiction") (st := s_Steps_contradiction) l_Mcontradiction c_Mcontradiction k_Mcontradiction
  have b_Mcontradiction := F_Mcontradiction.binds (ps := ["self"]) fun _ _ _ _ _ _ us hl => match us, hl with | [_], _ => rfl
  have F_Mrename := fun_mk (x := "rename") (qual := "Steps.rename") (st := s_Steps_rename) l_Mrename c_Mrename k_Mrename
  have b_Mrename := F_Mrename.binds (ps := ["self", "theory", "table"]) fun _ _ _ _ _ _ us hl => match us, hl with | [_, _, _], _ => rfl
  have F_Mground := fun_mk (x := "ground") (qual := "Steps.ground") (st := s_Steps_ground) l_Mground c_Mground k_Mground
  have b_Mground := F_Mground.binds (ps := ["self", "theory"]) fun _ _ _ _ _ _ us hl => match us, hl with | [_, _], _ => rfl
  have F_Mpin := fun_mk (x := "pin") (qual := "Steps.pin") (st := s_Steps_pin) l_Mpin c_Mpin k_Mpin
  have b_Mpin := F_Mpin.binds (ps := ["self", "names", "assignment"]) fun _ _ _ _ _ _ us hl => match us, hl with | [_, _, _], _ => rfl
  have F_Mlift := fun_mk (x := "lift") (qual := "Steps.lift") (st := s_Steps_lift) l_Mlift c_Mlift k_Mlift
  have b_Mlift := F_Mlift.binds (ps := ["self", "theory", "name", "assignment"]) fun _ _ _ _ _ _ us hl => match us, hl with | [_, _, _, _], _ => rfl
  have F__value := fun_mk (x := "_value") (qual := "_value") (st := s__value) l__value c__value k__value
  have b__value := F__value.binds (ps := ["side", "assignment"]) fun _ _ _ _ _ _ us hl => match us, hl with | [_, _], _ => rfl
  have F_replace_names := fun_mk (x := "replace_names") (qual := "replace_names") (st := s_replace_names) l_replace_names c_replace_names k_replace_names
  have b_replace_names := F_replace_names.binds (ps := ["names", "table"]) fun _ _ _ _ _ _ us hl => match us, hl with | [_, _], _ => rfl
  have F_merge_names := fun_mk (x := "merge_names") (qual := "merge_names") (st := s_merge_names) l_merge_names c_merge_names k_merge_names
  have F_satisfies := fun_mk (x := "satisfies") (qual := "satisfies") (st := s_satisfies) l_satisfies c_satisfies k_satisfies
  have b_satisfies := F_satisfies.binds (ps := ["kind", "theory", "assignment"]) fun _ _ _ _ _ _ us hl => match us, hl with | [_, _, _], _ => rfl
  have F__law_source := fun_mk (x := "_law_source") (qual := "_law_source") (st := s__law_source) l__law_source c__law_source k__law_source
  have b__law_source := F__law_source.binds (ps := ["_law_script", "_law_k"]) fun _ _ _ _ _ _ us hl => match us, hl with | [_, _], _ => rfl
  have F__law_draw := fun_mk (x := "_law_draw") (qual := "_law_draw") (st := s__law_draw) l__law_draw c__law_draw k__law_draw
  have b__law_draw := F__law_draw.binds (ps := ["_law_source_here", "_law_limit"]) fun _ _ _ _ _ _ us hl => match us, hl with | [_, _], _ => rfl
  have F__law_some := fun_mk (x := "_law_some") (qual := "_law_some") (st := s__law_some) l__law_some c__law_some k__law_some
  have b__law_some := F__law_some.binds (ps := ["_law_source_here", "_law_names", "_law_most"]) fun _ _ _ _ _ _ us hl => match us, hl with | [_, _, _], _ => rfl
  have F__law_bound := fun_mk (x := "_law_bound") (qual := "_law_bound") (st := s__law_bound) l__law_bound c__law_bound k__law_bound
  have b__law_bound := F__law_bound.binds (ps := ["_law_source_here"]) fun _ _ _ _ _ _ us hl => match us, hl with | [_], _ => rfl
  have F__law_constraint := fun_mk (x := "_law_constraint") (qual := "_law_constraint") (st := s__law_constraint) l__law_constraint c__law_constraint k__law_constraint
  have b__law_constraint := F__law_constraint.binds (ps := ["_law_source_here", "_law_names"]) fun _ _ _ _ _ _ us hl => match us, hl with | [_, _], _ => rfl
  have F__law_theory := fun_mk (x := "_law_theory") (qual := "_law_theory") (st := s__law_theory) l__law_theory c__law_theory k__law_theory
  have b__law_theory := F__law_theory.binds (ps := ["_law_source_here"]) fun _ _ _ _ _ _ us hl => match us, hl with | [_], _ => rfl
  have F__law_value := fun_mk (x := "_law_value") (qual := "_law_value") (st := s__law_value) l__law_value c__law_value k__law_value
  have b__law_value := F__law_value.binds (ps := ["_law_values", "_law_name"]) fun _ _ _ _ _ _ us hl => match us, hl with | [_, _], _ => rfl
  have F__law_same := fun_mk (x := "_law_same") (qual := "_law_same") (st := s__law_same) l__law_same c__law_same k__law_same
  have b__law_same := F__law_same.binds (ps := ["_law_actual", "_law_expected"]) fun _ _ _ _ _ _ us hl => match us, hl with | [_, _], _ => rfl
  have F__law_valid_right := fun_mk (x := "_law_valid_right") (qual := "_law_valid_right") (st := s__law_valid_right) l__law_valid_right c__law_valid_right k__law_valid_right
  have b__law_valid_right := F__law_valid_right.binds (ps := ["_law_source_here", "_law_names"]) fun _ _ _ _ _ _ us hl => match us, hl with | [_, _], _ => rfl
  have F__law_holds_right := fun_mk (x := "_law_holds_right") (qual := "_law_holds_right") (st := s__law_holds_right) l__law_holds_right c__law_holds_right k__law_holds_right
  have b__law_holds_right := F__law_holds_right.binds (ps := ["_law_source_here", "_law_names"]) fun _ _ _ _ _ _ us hl => match us, hl with | [_, _], _ => rfl
  have F__law_rename_right := fun_mk (x := "_law_rename_right") (qual := "_law_rename_right") (st := s__law_rename_right) l__law_rename_right c__law_rename_right k__law_rename_right
  have b__law_rename_right := F__law_rename_right.binds (ps := ["_law_source_here", "_law_theory_here"]) fun _ _ _ _ _ _ us hl => match us, hl with | [_, _], _ => rfl
  have F__law_pin_right := fun_mk (x := "_law_pin_right") (qual := "_law_pin_right") (st := s__law_pin_right) l__law_pin_right c__law_pin_right k__law_pin_right
  have b__law_pin_right := F__law_pin_right.binds (ps := ["_law_source_here", "_law_names"]) fun _ _ _ _ _ _ us hl => match us, hl with | [_, _], _ => rfl
  have F__law_ground_right := fun_mk (x := "_law_ground_right") (qual := "_law_ground_right") (st := s__law_ground_right) l__law_ground_right c__law_ground_right k__law_ground_right
  have b__law_ground_right := F__law_ground_right.binds (ps := ["_law_source_here"]) fun _ _ _ _ _ _ us hl => match us, hl with | [_], _ => rfl
  have F__law_first := fun_mk (x := "_law_first") (qual := "_law_first") (st := s__law_first) l__law_first c__law_first k__law_first
  have b__law_first := F__law_first.binds (ps := ["_law_theory_here", "_law_name", "_law_values"]) fun _ _ _ _ _ _ us hl => match us, hl with | [_, _, _], _ => rfl
  have F__law_lifted := fun_mk (x := "_law_lifted") (qual := "_law_lifted") (st := s__law_lifted) l__law_lifted c__law_lifted k__law_lifted
  have b__law_lifted := F__law_lifted.binds (ps := ["_law_theory_here", "_law_name", "_law_values", "_law_expected"]) fun _ _ _ _ _ _ us hl => match us, hl with | [_, _, _, _], _ => rfl
  have F__law_lift_right := fun_mk (x := "_law_lift_right") (qual := "_law_lift_right") (st := s__law_lift_right) l__law_lift_right c__law_lift_right k__law_lift_right
  have b__law_lift_right := F__law_lift_right.binds (ps := ["_law_source_here", "_law_theory_here"]) fun _ _ _ _ _ _ us hl => match us, hl with | [_, _], _ => rfl
  have F_law := fun_mk (x := "law") (qual := "law") (st := s_law) l_law c_law k_law
  have m_set := PySem.W.mg_none_of X G z_set
  have m_sorted := PySem.W.mg_none_of X G z_sorted
  have m_tuple := PySem.W.mg_none_of X G z_tuple
  have m_all := PySem.W.mg_none_of X G z_all
  have m_max := PySem.W.mg_none_of X G z_max
  have m_min := PySem.W.mg_none_of X G z_min
  have m_len := PySem.W.mg_none_of X G z_len
  have m_int := PySem.W.mg_none_of X G z_int
  have m_list := PySem.W.mg_none_of X G z_list
  have m_range := PySem.W.mg_none_of X G z_range
  have m_isinstance := PySem.W.mg_none_of X G z_isinstance
  have m_dict := PySem.W.mg_none_of X G z_dict
  have m_bool := PySem.W.mg_none_of X G z_bool
  have cl : Cls K C := ⟨pg, hd, po, sa⟩
  have B_Steps : Mk0.Bare K mg "Steps" C := ⟨mk, ini, kc, PySem.W.mg_of X G aC⟩
  have er : ErN K mg CF := ⟨PySem.W.mg_of X G aF, xF, kF, bF, tF⟩
  have es : ErS K mg CF SE := ⟨kit_exm bF clF tF ssF, ⟨gaF, ggF, bF, hdF, gcF, sp_, tk_, moF⟩, kit_t clS tS suS, PySem.W.mg_of X G aS⟩
  have T0 : SupM.SupA K C C "is_valid" f_kind := ⟨⟨cdC, cdC_⟩, mC, sC, tg, fg, by decide +kernel⟩
  refine ⟨PySem.W.fnOf "law" "law" (defArgs s_law) (defBody s_law) (defScope s_law) .none kV_law dc_law pm_law an_law cd_law ct_law, fun s v => .of_eq rfl, fun base _ _ => ?_⟩
  have C__value : Cal l.prog w K mg base "_value" 1 ["side", "assignment"] spVal := ⟨_, _, ok_value (F := F__value) , PySem.W.mg_of X G a__value, F__value.kp, b__value⟩
  have C_replace_names : Cal l.prog w K mg base "replace_names" 1 ["names", "table"] (spRepl K) := ⟨_, _, ok_repl (F := F_replace_names) , PySem.W.mg_of X G a_replace_names, F_replace_names.kp, b_replace_names⟩
  have C_merge_names : CalR l.prog w K mg base "merge_names" 1 (spMerge K) := ⟨_, ok_merge_names (F := F_merge_names) (m_set := m_set) (m_sorted := m_sorted) (m_tuple := m_tuple), PySem.W.mg_of X G a_merge_names, F_merge_names.kp⟩
  have M_names_in : MthC l.prog w K mg base C "names_in" 1 ["self", "constraint"] (spNIn K) := ⟨_, _, cl, ⟨a_Mnames_in, i_Mnames_in, k_Mnames_in⟩, ok_names_in (F := F_Mnames_in) (m_tuple := m_tuple), b_Mnames_in⟩
  have M_holds : MthC l.prog w K mg base C "holds" 2 ["self", "constraint", "assignment"] (spHolds K) := ⟨_, _, cl, ⟨a_Mholds, i_Mholds, k_Mholds⟩, ok_holds (F := F_Mholds) (C__value := C__value), b_Mholds⟩
  have C_satisfies : Cal l.prog w K mg base "satisfies" 3 ["kind", "theory", "assignment"] (spSat K C) := ⟨_, _, ok_satisfies (F := F_satisfies) (m_all := m_all) (M_holds := M_holds), PySem.W.mg_of X G a_satisfies, F_satisfies.kp, b_satisfies⟩
  have M_contradiction : MthC l.prog w K mg base C "contradiction" 1 ["self"] (spContra K) := ⟨_, _, cl, ⟨a_Mcontradiction, i_Mcontradiction, k_Mcontradiction⟩, ok_contra (F := F_Mcontradiction) , b_Mcontradiction⟩
  have M_rename : MthC l.prog w K mg base C "rename" 2 ["self", "theory", "table"] (spRename K) := ⟨_, _, cl, ⟨a_Mrename, i_Mrename, k_Mrename⟩, ok_rename (F := F_Mrename) (m_tuple := m_tuple) (C_merge_names := C_merge_names) (C_replace_names := C_replace_names), b_Mrename⟩
  have M_ground : MthC l.prog w K mg base C "ground" 4 ["self", "theory"] (spGround K C) := ⟨_, _, cl, ⟨a_Mground, i_Mground, k_Mground⟩, ok_ground (F := F_Mground) (C_satisfies := C_satisfies), b_Mground⟩
  have M_pin : MthC l.prog w K mg base C "pin" 1 ["self", "names", "assignment"] (spPin K) := ⟨_, _, cl, ⟨a_Mpin, i_Mpin, k_Mpin⟩, ok_pin (F := F_Mpin) (m_tuple := m_tuple), b_Mpin⟩
  have M_lift : MthX l.prog w K mg base C "lift" 4 ["self", "theory", "name", "assignment"] (spLift K C CF) := ⟨_, _, cl, ⟨a_Mlift, i_Mlift, k_Mlift⟩, ok_lift (F := F_Mlift) (er := er) (m_max := m_max) (m_min := m_min) (C__value := C__value) (C_satisfies := C_satisfies), b_Mlift⟩
  have F0 : FnR l.prog w K mg base CX0 2 f_kind (spKV K C) := FnR.imp (FnOk.raw (ok_kind_valid (C := C) (F := F_kind) (m_all := m_all) (M_names_in := M_names_in)) b_kind .nil) fun vs H Q E h => by rw [List.append_nil]; exact h
  have M_is_valid : MthC l.prog w K mg base C "is_valid" 4 ["self", "names", "constraint"] (spSV K C) := ⟨fV, _, cl, ⟨i_V, iV, kV_⟩, ok_valid l_V c_V ⟨clV, cldV, cslV, l_ccV⟩ ⟨cclV, cddV, vsV, ccsV, fileV, tfV, l_cdaV, v_cdaV, p_fileV⟩ p_top (PySem.W.mg_none_of X G z_super) any_ T0 F0, Binds.all fun us hl => match us, hl with | [_, _, _], _ => rfl⟩
  have C__law_source : Cal l.prog w K mg base "_law_source" 1 ["_law_script", "_law_k"] (spSource K) := ⟨_, _, ok_source (F := F__law_source) (m_len := m_len) (m_int := m_int), PySem.W.mg_of X G a__law_source, F__law_source.kp, b__law_source⟩
  have C__law_draw : Cal l.prog w K mg base "_law_draw" 1 ["_law_source_here", "_law_limit"] spDraw := ⟨_, _, ok_draw (F := F__law_draw) (m_int := m_int), PySem.W.mg_of X G a__law_draw, F__law_draw.kp, b__law_draw⟩
  have C__law_some : Cal l.prog w K mg base "_law_some" 2 ["_law_source_here", "_law_names", "_law_most"] (spSome K) := ⟨_, _, ok_some (F := F__law_some) (m_len := m_len) (C__law_draw := C__law_draw), PySem.W.mg_of X G a__law_some, F__law_some.kp, b__law_some⟩
  have C__law_bound : Cal l.prog w K mg base "_law_bound" 2 ["_law_source_here"] spBound := ⟨_, _, ok_bound (F := F__law_bound) (C__law_draw := C__law_draw), PySem.W.mg_of X G a__law_bound, F__law_bound.kp, b__law_bound⟩
  have C__law_constraint : Cal l.prog w K mg base "_law_constraint" 3 ["_law_source_here", "_law_names"] (spCtr K) := ⟨_, _, ok_constraint (F := F__law_constraint) (m_list := m_list) (m_len := m_len) (C__law_draw := C__law_draw) (C__law_bound := C__law_bound), PySem.W.mg_of X G a__law_constraint, F__law_constraint.kp, b__law_constraint⟩
  have C__law_theory : Cal l.prog w K mg base "_law_theory" 4 ["_law_source_here"] (spTheory K) := ⟨_, _, ok_theory (F := F__law_theory) (m_range := m_range) (m_tuple := m_tuple) (C__law_draw := C__law_draw) (C__law_some := C__law_some) (C__law_constraint := C__law_constraint), PySem.W.mg_of X G a__law_theory, F__law_theory.kp, b__law_theory⟩
  have C__law_value : Cal l.prog w K mg base "_law_value" 1 ["_law_values", "_law_name"] spVal2 := ⟨_, _, ok_law_value (F := F__law_value) , PySem.W.mg_of X G a__law_value, F__law_value.kp, b__law_value⟩
  have C__law_same : Cal l.prog w K mg base "_law_same" 1 ["_law_actual", "_law_expected"] spSame := ⟨_, _, ok_same (F := F__law_same) (m_isinstance := m_isinstance) (m_dict := m_dict) (m_int := m_int) (m_bool := m_bool) (m_sorted := m_sorted), PySem.W.mg_of X G a__law_same, F__law_same.kp, b__law_same⟩
  have C__law_valid_right : Cal l.prog w K mg base "_law_valid_right" 5 ["_law_source_here", "_law_names"] (spVR K) := ⟨_, _, ok_valid_right (F := F__law_valid_right) (m_list := m_list) (m_len := m_len) (m_isinstance := m_isinstance) (m_bool := m_bool) (m_tuple := m_tuple) (B_Steps := B_Steps) (C__law_draw := C__law_draw) (C__law_bound := C__law_bound) (M_is_valid := M_is_valid) (M_names_in := M_names_in), PySem.W.mg_of X G a__law_valid_right, F__law_valid_right.kp, b__law_valid_right⟩
  have C__law_holds_right : Cal l.prog w K mg base "_law_holds_right" 4 ["_law_source_here", "_law_names"] (spNm K) := ⟨_, _, ok_holds_right (F := F__law_holds_right) (m_range := m_range) (m_sorted := m_sorted) (m_isinstance := m_isinstance) (m_bool := m_bool) (B_Steps := B_Steps) (C__law_draw := C__law_draw) (C__law_constraint := C__law_constraint) (C__law_value := C__law_value) (M_holds := M_holds), PySem.W.mg_of X G a__law_holds_right, F__law_holds_right.kp, b__law_holds_right⟩
  have C__law_rename_right : Cal l.prog w K mg base "_law_rename_right" 4 ["_law_source_here", "_law_theory_here"] (spThR K) := ⟨_, _, ok_rename_right (F := F__law_rename_right) (m_range := m_range) (m_sorted := m_sorted) (m_len := m_len) (m_int := m_int) (m_tuple := m_tuple) (B_Steps := B_Steps) (C__law_draw := C__law_draw) (C__law_some := C__law_some) (M_rename := M_rename), PySem.W.mg_of X G a__law_rename_right, F__law_rename_right.kp, b__law_rename_right⟩
  have C__law_pin_right : Cal l.prog w K mg base "_law_pin_right" 3 ["_law_source_here", "_law_names"] (spNm K) := ⟨_, _, ok_pin_right (F := F__law_pin_right) (m_sorted := m_sorted) (m_isinstance := m_isinstance) (m_bool := m_bool) (m_int := m_int) (m_tuple := m_tuple) (m_list := m_list) (B_Steps := B_Steps) (C__law_draw := C__law_draw) (M_pin := M_pin), PySem.W.mg_of X G a__law_pin_right, F__law_pin_right.kp, b__law_pin_right⟩
  have C__law_ground_right : Cal l.prog w K mg base "_law_ground_right" 5 ["_law_source_here"] (spRt K) := ⟨_, _, ok_ground_right (F := F__law_ground_right) (m_range := m_range) (m_len := m_len) (m_tuple := m_tuple) (B_Steps := B_Steps) (C__law_draw := C__law_draw) (M_ground := M_ground) (C__law_same := C__law_same), PySem.W.mg_of X G a__law_ground_right, F__law_ground_right.kp, b__law_ground_right⟩
  have C__law_first : Cal l.prog w K mg base "_law_first" 2 ["_law_theory_here", "_law_name", "_law_values"] (spFirst K) := ⟨_, _, ok_first (F := F__law_first) (m_max := m_max) (m_min := m_min) (m_len := m_len) (C__law_value := C__law_value), PySem.W.mg_of X G a__law_first, F__law_first.kp, b__law_first⟩
  have C__law_lifted : Cal l.prog w K mg base "_law_lifted" 6 ["_law_theory_here", "_law_name", "_law_values", "_law_expected"] (spLifted K) := ⟨_, _, ok_lifted (F := F__law_lifted) (er := er) (es := es) (m_isinstance := m_isinstance) (m_int := m_int) (m_bool := m_bool) (B_Steps := B_Steps) (M_lift := M_lift), PySem.W.mg_of X G a__law_lifted, F__law_lifted.kp, b__law_lifted⟩
  have C__law_lift_right : Cal l.prog w K mg base "_law_lift_right" 7 ["_law_source_here", "_law_theory_here"] (spThR K) := ⟨_, _, ok_lift_right (F := F__law_lift_right) (m_sorted := m_sorted) (m_list := m_list) (m_tuple := m_tuple) (C__law_draw := C__law_draw) (C__law_value := C__law_value) (C__law_first := C__law_first) (C__law_lifted := C__law_lifted), PySem.W.mg_of X G a__law_lift_right, F__law_lift_right.kp, b__law_lift_right⟩
  exact ok_law F_law (m_range := m_range) (B_Steps := B_Steps) (M_contradiction := M_contradiction) (C__law_source := C__law_source) (C__law_theory := C__law_theory) (C__law_valid_right := C__law_valid_right) (C__law_holds_right := C__law_holds_right) (C__law_rename_right := C__law_rename_right) (C__law_pin_right := C__law_pin_right) (C__law_ground_right := C__law_ground_right) (C__law_lift_right := C__law_lift_right)
end K14
open PySem PySem.W PyProof.Rows
set_option maxRecDepth 100000 in
set_option maxHeartbeats 0 in
theorem PySem.Challenge.cw_shadowlinks_k14_step_constraints_holds : PySem.Challenge.rw_shadowlinks_k14_step_constraints.Holds := by
  w_on; o_law; k_head; (case hw => w_witness2)
  k_fill
  refine L2.walk_of (l := PySem.Challenge.rw_shadowlinks_k14_step_constraints) (n := 63) (k := 8) (x := "_law_script") (CX := fun _ => L2.CX0) (sp := fun w => K14.spLaw _) rfl (by decide) rfl ⟨rfl, by decide, by decide⟩ (fun w h Y => PySem.W.kIn_of Y) ?F (fun _ _ a ns hl _ hS => ⟨a, ns, rfl, hS, hl, fun _ => rfl⟩) (fun _ _ _ _ _ h => h)
  case F =>
    intro w mg fa h KX G hmg
    refine' K14.all_mk KX G hmg ?aC ?aF ?aS ?aK ?pg ?hd ?po ?sa ?mk ?kc ?ini ?xF ?kF ?bF ?tF ?clF ?clS ?tS ?ssF ?suS ?gaF ?ggF ?hdF ?gcF ?sp_ ?tk_ ?moF ?p_top ?z_super ?any_ ?a_kind ?l_kind ?c_kind ?k_kind ?cdC_ ?mC ?sC ?tg ?fg ?i_V ?l_V ?c_V ?l_ccV ?l_cdaV ?v_cdaV ?p_fileV ?iV ?kV_ ?a_Mnames_in ?l_Mnames_in ?c_Mnames_in ?k_Mnames_in ?i_Mnames_in ?a_Mholds ?l_Mholds ?c_Mholds ?k_Mholds ?i_Mholds ?a_Mcontradiction ?l_Mcontradiction ?c_Mcontradiction ?k_Mcontradiction ?i_Mcontradiction ?a_Mrename ?l_Mrename ?c_Mrename ?k_Mrename ?i_Mrename ?a_Mground ?l_Mground ?c_Mground ?k_Mground ?i_Mground ?a_Mpin ?l_Mpin ?c_Mpin ?k_Mpin ?i_Mpin ?a_Mlift ?l_Mlift ?c_Mlift ?k_Mlift ?i_Mlift ?a__value ?l__value ?c__value ?k__value ?a_replace_names ?l_replace_names ?c_replace_names ?k_replace_names ?a_merge_names ?l_merge_names ?c_merge_names ?k_merge_names ?a_satisfies ?l_satisfies ?c_satisfies ?k_satisfies ?a__law_source ?l__law_source ?c__law_source ?k__law_source ?a__law_draw ?l__law_draw ?c__law_draw ?k__law_draw ?a__law_some ?l__law_some ?c__law_some ?k__law_some ?a__law_bound ?l__law_bound ?c__law_bound ?k__law_bound ?a__law_constraint ?l__law_constraint ?c__law_constraint ?k__law_constraint ?a__law_theory ?l__law_theory ?c__law_theory ?k__law_theory ?a__law_value ?l__law_value ?c__law_value ?k__law_value ?a__law_same ?l__law_same ?c__law_same ?k__law_same ?a__law_valid_right ?l__law_valid_right ?c__law_valid_right ?k__law_valid_right ?a__law_holds_right ?l__law_holds_right ?c__law_holds_right ?k__law_holds_right ?a__law_rename_right ?l__law_rename_right ?c__law_rename_right ?k__law_rename_right ?a__law_pin_right ?l__law_pin_right ?c__law_pin_right ?k__law_pin_right ?a__law_ground_right ?l__law_ground_right ?c__law_ground_right ?k__law_ground_right ?a__law_first ?l__law_first ?c__law_first ?k__law_first ?a__law_lifted ?l__law_lifted ?c__law_lifted ?k__law_lifted ?a__law_lift_right ?l__law_lift_right ?c__law_lift_right ?k__law_lift_right ?a_law ?l_law ?c_law ?k_law ?z_set ?z_sorted ?z_tuple ?z_all ?z_max ?z_min ?z_len ?z_int ?z_list ?z_range ?z_isinstance ?z_dict ?z_bool
    (case aC => k_is)
    (case aF => k_is)
    (case aS => k_is)
    (case aK => k_is)
    (case pg => k_is)
    (case hd => k_is)
    (case po => k_is)
    (case sa => k_is)
    (case mk => k_is)
    (case kc => k_is)
    (case ini => k_is)
    (case xF => k_exc)
    (case kF => k_is)
    (case bF => k_is)
    (case tF => k_is)
    (case clF => k_is)
    (case clS => k_is)
    (case tS => k_is)
    (case ssF => k_is)
    (case suS => k_is)
    (case gaF => k_is)
    (case ggF => k_is)
    (case hdF => k_is)
    (case gcF => k_is)
    (case sp_ => k_is)
    (case tk_ => k_is)
    (case moF => k_is)
    (case p_top => rfl)
    (case z_super => k_is)
    (case any_ => k_is)
    (case a_kind => k_is)
    (case l_kind => k_is)
    (case c_kind => k_is)
    (case k_kind => k_is)
    (case cdC_ => k_is)
    (case mC => k_is)
    (case sC => ks_is)
    (case tg => k_is)
    (case fg => k_is)
    (case i_V => k_is)
    (case l_V => k_is)
    (case c_V => k_is)
    (case l_ccV => k_is)
    (case l_cdaV => k_is)
    (case v_cdaV => rfl)
    (case p_fileV => rfl)
    (case iV => k_is)
    (case kV_ => k_is)
    (case a_Mnames_in => k_is)
    (case l_Mnames_in => k_is)
    (case c_Mnames_in => k_is)
    (case k_Mnames_in => k_is)
    (case i_Mnames_in => k_is)
    (case a_Mholds => k_is)
    (case l_Mholds => k_is)
    (case c_Mholds => k_is)
    (case k_Mholds => k_is)
    (case i_Mholds => k_is)
    (case a_Mcontradiction => k_is)
    (case l_Mcontradiction => k_is)
    (case c_Mcontradiction => k_is)
    (case k_Mcontradiction => k_is)
    (case i_Mcontradiction => k_is)
    (case a_Mrename => k_is)
    (case l_Mrename => k_is)
    (case c_Mrename => k_is)
    (case k_Mrename => k_is)
    (case i_Mrename => k_is)
    (case a_Mground => k_is)
    (case l_Mground => k_is)
    (case c_Mground => k_is)
    (case k_Mground => k_is)
    (case i_Mground => k_is)
    (case a_Mpin => k_is)
    (case l_Mpin => k_is)
    (case c_Mpin => k_is)
    (case k_Mpin => k_is)
    (case i_Mpin => k_is)
    (case a_Mlift => k_is)
    (case l_Mlift => k_is)
    (case c_Mlift => k_is)
    (case k_Mlift => k_is)
    (case i_Mlift => k_is)
    (case a__value => k_is)
    (case l__value => k_is)
    (case c__value => k_is)
    (case k__value => k_is)
    (case a_replace_names => k_is)
    (case l_replace_names => k_is)
    (case c_replace_names => k_is)
    (case k_replace_names => k_is)
    (case a_merge_names => k_is)
    (case l_merge_names => k_is)
    (case c_merge_names => k_is)
    (case k_merge_names => k_is)
    (case a_satisfies => k_is)
    (case l_satisfies => k_is)
    (case c_satisfies => k_is)
    (case k_satisfies => k_is)
    (case a__law_source => k_is)
    (case l__law_source => k_is)
    (case c__law_source => k_is)
    (case k__law_source => k_is)
    (case a__law_draw => k_is)
    (case l__law_draw => k_is)
    (case c__law_draw => k_is)
    (case k__law_draw => k_is)
    (case a__law_some => k_is)
    (case l__law_some => k_is)
    (case c__law_some => k_is)
    (case k__law_some => k_is)
    (case a__law_bound => k_is)
    (case l__law_bound => k_is)
    (case c__law_bound => k_is)
    (case k__law_bound => k_is)
    (case a__law_constraint => k_is)
    (case l__law_constraint => k_is)
    (case c__law_constraint => k_is)
    (case k__law_constraint => k_is)
    (case a__law_theory => k_is)
    (case l__law_theory => k_is)
    (case c__law_theory => k_is)
    (case k__law_theory => k_is)
    (case a__law_value => k_is)
    (case l__law_value => k_is)
    (case c__law_value => k_is)
    (case k__law_value => k_is)
    (case a__law_same => k_is)
    (case l__law_same => k_is)
    (case c__law_same => k_is)
    (case k__law_same => k_is)
    (case a__law_valid_right => k_is)
    (case l__law_valid_right => k_is)
    (case c__law_valid_right => k_is)
    (case k__law_valid_right => k_is)
    (case a__law_holds_right => k_is)
    (case l__law_holds_right => k_is)
    (case c__law_holds_right => k_is)
    (case k__law_holds_right => k_is)
    (case a__law_rename_right => k_is)
    (case l__law_rename_right => k_is)
    (case c__law_rename_right => k_is)
    (case k__law_rename_right => k_is)
    (case a__law_pin_right => k_is)
    (case l__law_pin_right => k_is)
    (case c__law_pin_right => k_is)
    (case k__law_pin_right => k_is)
    (case a__law_ground_right => k_is)
    (case l__law_ground_right => k_is)
    (case c__law_ground_right => k_is)
    (case k__law_ground_right => k_is)
    (case a__law_first => k_is)
    (case l__law_first => k_is)
    (case c__law_first => k_is)
    (case k__law_first => k_is)
    (case a__law_lifted => k_is)
    (case l__law_lifted => k_is)
    (case c__law_lifted => k_is)
    (case k__law_lifted => k_is)
    (case a__law_lift_right => k_is)
    (case l__law_lift_right => k_is)
    (case c__law_lift_right => k_is)
    (case k__law_lift_right => k_is)
    (case a_law => k_is)
    (case l_law => k_is)
    (case c_law => k_is)
    (case k_law => k_is)
    (case z_set => k_is)
    (case z_sorted => k_is)
    (case z_tuple => k_is)
    (case z_all => k_is)
    (case z_max => k_is)
    (case z_min => k_is)
    (case z_len => k_is)
    (case z_int => k_is)
    (case z_list => k_is)
    (case z_range => k_is)
    (case z_isinstance => k_is)
    (case z_dict => k_is)
    (case z_bool => k_is)
#print axioms PySem.Challenge.cw_shadowlinks_k14_step_constraints_holds
