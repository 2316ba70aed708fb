import PyProof.Rows.All
import Wide.All
import OpenK.AllK
import Wide.FinOn
import HandS.ForExc
import PyProof.Rows.SortShellAny
import HandS.SetTxt0
import HandS.TupSets
import HandS.ForMost
import HandS.Walk
import HandS.IsInst
import HandS.IterVal
import HandS.Star
import HandS.Deep
import HandS.DictComp
import HandS.Zip
import HandS.ExcInit
import HandS.Nested
import KE.KExcSuper
import HandS.ExcField
import HandS.ExcIs
import KE.KExcIs
import HandS.WordsExc
import HandS.FStr
import HandS.Defaults
import HandS.CallSlots
import HandS.Wide
import HandS.Style
import HandS.OwnEq
import HandS.Property
import OpenK.KMeth
import OpenK.KOps
import KE.KOpsOwn
import KE.KOwnIter
import KE.KDictPairs
import HandS.Gcd
import HandS.ClsMeth
import HandS.TupMul
import HandS.SetFor
import HandS.TupAny
import KE.DataFind
import HandS.TryMany
import HandS.OwnIter
import PySem.Challenge.RW_shadowlinks_k02_parts
set_option Elab.async false
set_option linter.all false
set_option maxRecDepth 100000
/-! Sets of texts, made of a list or a tuple, and sorted: any texts, in whatever order the world walks them. -/
namespace Sx
open PySem PySem.Spec PyProof.Rows L2 PySem.Froz

/-! ### lists -/
/-- a list without twins whose members all stand in a list of the same length is that list in another order -/
theorem perm_of_sub : ∀ (l ks : List Str), l.Nodup → (∀ x, x ∈ l → x ∈ ks) → ks.length = l.length → l.Perm ks
  | [], ks, _, _, e => by
    have z : ks = [] := List.length_eq_zero_iff.mp e
    rw [z]
  | x :: l, ks, nd, sub, e => by
    obtain ⟨hx, nd'⟩ := List.nodup_cons.mp nd
    have hm : x ∈ ks := sub x List.mem_cons_self
    have p := List.perm_cons_erase hm
    have hl : (ks.erase x).length = l.length := by
      have q := p.length_eq
      simp only [List.length_cons] at q e
      omega
    refine ((perm_of_sub l (ks.erase x) nd' (fun y hy => ?_) hl).cons x).trans p.symm
    have hne : y ≠ x := fun z => hx (z ▸ hy)
    exact (List.mem_erase_of_ne hne).mpr (sub y (List.mem_cons_of_mem _ hy))

/-! ### the payload behind an add -/
theorem tail_ris {ep : Nat} {es : Array (Int × Value)} {t : SetTable} {d : Bool} (r : Ris t.place.toList) : Ris (tailTx ep es t d).2.2.place.toList := by
  unfold tailTx
  split
  · exact relayAll_ris t es _
  · exact r
theorem tail_led {ep : Nat} {es : Array (Int × Value)} {t : SetTable} {d : Bool} : (tailTx ep es t d).2.2.led = t.led := by
  unfold tailTx
  split
  · exact relayAll_led t es _
  · rfl
theorem add_ris {D : SD} (h : Int) (v : Value) (r : Ris D.2.2.place.toList) : Ris (addTx h v D).2.2.place.toList := by
  have r1 := layNew_ris D.2.2 D.1 h v r
  unfold addTx
  apply tail_ris
  split
  · exact r1
  · exact r1
theorem add_led {D : SD} (h : Int) (v : Value) : (addTx h v D).2.2.led = D.2.2.led := by
  have r1 := layNew_led D.2.2 D.1 h v
  unfold addTx
  rw [tail_led]
  split
  · exact r1
  · exact r1

/-- the set of the texts l stands at a -/
def SetX (P : Program) (w : World) (h : Heap) (a : Addr) (l : List Str) : Prop :=
  ∃ D : SD, h.get? a = some (sObj "set" D) ∧ TxOk P w D l ∧ l.Nodup ∧ Ris D.2.2.place.toList ∧ (w.params.followText "set-order" = true ∨ D.2.2.led = true)

section
variable {P : Program} {w : World} {A : Around} {E : Value → Shared → Prop} {s : Shared}

theorem SetX.at {h h' : Heap} {a : Addr} {l : List Str} (R : SetX P w h a l) (k : ∀ o, h.get? a = some o → h'.get? a = some o) : SetX P w h' a l := by
  obtain ⟨D, ho, r⟩ := R
  exact ⟨D, k _ ho, r⟩
theorem setX_fresh {h : Heap} {a : Addr} (ho : h.get? a = some { cls := .type "set", dict := none, data := .set #[] 0 (.fresh 0 0 (!w.params.followText "set-order")) }) : SetX P w h a [] := by
  refine ⟨(#[], 0, .fresh 0 0 (!w.params.followText "set-order")), ho, TxOk.nil rfl, List.nodup_nil, List.Pairwise.nil, ?_⟩
  show _ ∨ (!w.params.followText "set-order") = true
  cases w.params.followText "set-order"
  · exact .inr rfl
  · exact .inl rfl

/-- one text more, new or there already -/
theorem add_any {a : Addr} {l : List Str} {k : Str} {u : Tok} {Q : Bool → Shared → Prop} (R : SetX P w s.heap a l) (hb : l.length + 1 < scanBound)
    (hQ : ∀ b h' l', Heap.SameBut a s.heap h' → SetX P w h' a l' → (∀ x, x ∈ l' ↔ x = k ∨ x ∈ l) → l'.length ≤ l.length + 1 → Q b { s with heap := h' }) :
    wpAny (model P w) A (setAddHashed a (.str k u) (hashStr w k)) Q E s := by
  obtain ⟨D, ho, F, nd, r, hl⟩ := R
  rcases Classical.em (k ∈ l) with hk | hk
  · obtain ⟨es, ep, t⟩ := D
    have hd : (sObj "set" (es, ep, t)).data = .set es ep t := rfl
    have hf : t.fits es.size = true := F.fit
    have hel : ElemsOf (PySem.strKind P w) es.toList := F.el
    have hb0 : es.size < scanBound := by
      have z : es.size = l.length := F.sz
      omega
    have hkey : (PySem.strKind P w).is k (.str k u) = true := is_str k u
    unfold setAddHashed setAddHashedIn
    refine wpAny_holding (wpAny_bind (wpAny_setState_of ho hd hf ?_))
    dsimp only
    rw [byScan_of rfl hb0 hel]
    simp only [↓reduceIte]
    unfold setAddByScan
    refine wpAny_bind ?_
    refine wpAny_bind (wpAny_rule ?_)
    refine wpAny_bind (wpAny_setScan_of (knd := PySem.strKind P w) (k := k) hkey ho hd hf hel ?_)
    cases hfi : List.findIdx? (fun e => (PySem.strKind P w).is k e.2) es.toList with
    | none =>
      obtain ⟨e, he, q⟩ := (F.mem k).mp hk
      have c := List.findIdx?_eq_none_iff.mp hfi e he
      rw [q] at c
      cases c
    | some j =>
      dsimp only
      refine wpAny_pure (wpAny_pure ?_)
      exact hQ _ s.heap l (Heap.SameBut.refl a s.heap) ⟨(es, ep, t), ho, F, nd, r, hl⟩ (fun x => ⟨.inr, fun z => z.elim (fun e => e ▸ hk) id⟩) (Nat.le_succ _)
  · refine add_x ho F hk hb (hQ _ _ (k :: l) (Heap.SameBut.update s.heap a _) ⟨_, get_upd _ ho rfl, add_ok u F, List.nodup_cons.mpr ⟨hk, nd⟩, add_ris _ _ r, ?_⟩ (fun x => List.mem_cons) (Nat.le_refl _))
    exact hl.imp id fun z => by
      rw [add_led]
      exact z
end

/-! ### set(xs): the loop -/
section
variable {P : Program} {w : World} {A : Around} {R : Result → Shared → Prop} {I : Addr} {fp wr : List Addr} {G : Array GenState → Array GenState → Prop} {n : Nat} {Pv : Nat → Value → Prop} {St : Nat → Shared → Prop}
theorem fill_loop (W : WalksS P w A.in1 I fp wr G n Pv St) (S : Addr) (hSf : S ∉ fp) (xs : List Str) (hn : xs.length = n) (hval : ∀ i v, Pv i v → ∃ t, v = .str (xs.getD i Str.empty) t) (hb : n + 1 < scanBound) :
    ∀ (k i : Nat) (s : Shared) (l : List Str), n - i = k → i ≤ n → St i s → SetX P w s.heap S l → (∀ x, x ∈ l ↔ x ∈ xs.take i) → l.length ≤ i →
      (∀ s' l', Moved (S :: wr) G s s' → SetX P w s'.heap S l' → (∀ x, x ∈ l' ↔ x ∈ xs) → l'.length ≤ n → R (.ok (.ret .none)) s') →
      codeAny (model P w) A (.builtin "set.update.loop" ⟨[.ref S, .ref I], []⟩) R s := by
  have hSw : S ∉ wr := fun h => hSf (W.sub _ h)
  have hsub : ∀ b ∈ wr, b ∈ S :: wr := fun b hb => List.mem_cons_of_mem _ hb
  intro k
  induction k with
  | zero =>
    intro i s l hk hi hst hS hm hlen hR
    have hin : i = n := by omega
    subst hin
    refine codeAny_builtin PyProof.Rows.F.entry_set_update_loop ?_
    rw [Around.under_plainId PyProof.Rows.F.plain_set_update_loop _]
    show wpAny _ A.in1 (pyNext (.ref I) >>= _) _ _ s
    refine wpAny_bind (W.done s _ _ hst fun s' hmv => ?_)
    show wpAny _ A.in1 (ret Value.none) _ _ s'
    refine wpAny_pure (hR s' l (hmv.mono hsub) (hS.at fun o e => hmv.heap S o hSw e) (fun x => ?_) hlen)
    rw [hm x, ← hn, List.take_length]
  | succ k ih =>
    intro i s l hk hi hst hS hm hlen hR
    have hlt : i < n := by omega
    refine codeAny_builtin PyProof.Rows.F.entry_set_update_loop ?_
    rw [Around.under_plainId PyProof.Rows.F.plain_set_update_loop _]
    show wpAny _ A.in1 (pyNext (.ref I) >>= _) _ _ s
    refine wpAny_bind (W.item i s _ _ hlt hst fun v s' hP hst' hmv => ?_)
    obtain ⟨t, rfl⟩ := hval i v hP
    have hS' : SetX P w s'.heap S l := hS.at fun o e => hmv.heap S o hSw e
    show wpAny _ A.in1 (holding [Value.str (xs.getD i Str.empty) t] (setAdd S (.str (xs.getD i Str.empty) t)) >>= _) _ _ s'
    refine wpAny_bind (wpAny_holding ?_)
    unfold setAdd
    refine wpAny_holding ?_
    refine wpAny_bind ((PySem.strKind P w).pyHash (k := xs.getD i Str.empty) (strKind_is _ _ _ _) ?_)
    have hroom : l.length + 1 < scanBound := by omega
    refine add_any (s := { s' with toks := s'.toks + 1 }) hS' hroom fun b h' l' hsb hS2 hm2 hl2 => ?_
    have hix : i < xs.length := by omega
    have eg : xs.getD i Str.empty = xs[i] := by
      rw [List.getD_eq_getElem?_getD, List.getElem?_eq_getElem hix]
      rfl
    have hm3 : ∀ x, x ∈ l' ↔ x ∈ xs.take (i + 1) := fun x => by
      rw [hm2 x, List.take_succ, List.getElem?_eq_getElem hix, eg]
      show _ ↔ x ∈ xs.take i ++ [xs[i]]
      rw [List.mem_append, List.mem_singleton, hm x]
      exact Or.comm
    refine wpAny_pure ⟨plainId_quiet PyProof.Rows.F.plain_set_update_loop _, ih (i + 1) _ l' (by omega) hlt (W.frame _ s' _ _ hst' (Nat.le_succ _) fun b hb o e => ?_) hS2 hm3 (by omega) fun s'' l'' hmv'' hS'' hm'' hl'' => ?_⟩
    · rw [hsb.2 b (fun h : b = S => hSf (by rw [← h]; exact hb))]
      exact e
    · refine hR s'' l'' (Moved.trans W.gtrans ((hmv.mono hsub).then_heap (Nat.le_succ _) fun b o hb e => ?_) hmv'') hS'' hm'' hl''
      rw [hsb.2 b (fun h : b = S => hb (by rw [h]; exact List.mem_cons_self))]
      exact e
end

/-! ### set(xs): the call -/
section
variable {P : Program} {w : World} {A : Around} {E : Value → Shared → Prop} {s : Shared}
abbrev emptyObj (w : World) : Obj := { cls := .type "set", dict := none, data := .set #[] 0 (.fresh 0 0 (!w.params.followText "set-order")) }
theorem str_at {us : List Value} {xs : List Str} (h : StrsAre us xs) : ∀ (i : Nat) (v : Value), us[i]? = some v → ∃ t, v = .str (xs.getD i Str.empty) t := by
  induction h with
  | nil =>
    intro i v e
    cases e
  | cons y t h ih =>
    intro i v e
    cases i with
    | zero =>
      have q : Value.str y t = v := Option.some.inj e
      exact ⟨t, q.symm⟩
    | succ i => exact ih i v e

set_option maxRecDepth 100000 in
set_option maxHeartbeats 4000000 in
/-- set(xs), xs a list or a tuple of texts -/
theorem call_set {l : Addr} {items : Array Value} {xs : List Str} {Q : Value → Shared → Prop} (hh : A.handled = none) (hl : s.heap.IsList l items ∨ s.heap.IsTuple l items) (hi : StrsAre items.toList xs) (hb : xs.length + 1 < scanBound)
    (h : ∀ (h' : Heap) (tk : Nat) (ys : List Str), SetX P w h' s.heap.objs.size ys → (∀ x, x ∈ ys ↔ x ∈ xs) → ys.length ≤ xs.length → (∀ b o, s.heap.get? b = some o → h'.get? b = some o) → Q (.ref s.heap.objs.size) { s with heap := h', toks := tk }) :
    wpAny (model P w) A (call (.type "set") [.ref l]) Q E s := by
  have hisz : xs.length = items.size := by rw [← StrsAre.len_eq hi, Array.length_toList]
  have hval : ∀ (i : Nat) (v : Value), items[i]? = some v → ∃ t, v = .str (xs.getD i Str.empty) t := fun i v hv => str_at hi i v (by rw [Array.getElem?_toList]; exact hv)
  obtain ⟨c, tl, hmro⟩ := PySem.F.called_set.mro
  have hmade := PySem.F.called_set.made
  have hsub := PySem.F.called_set.sub
  refine wpAny_call (codeAny_of_tree ?_)
  show wpAny _ _ (callAny (.type "set") _) _ _ _
  refine wpAny_pure ⟨Code.quiet_builtin _ (by decide +kernel), codeAny_builtin PySem.F.entry_type_call ?_⟩
  rw [Around.under_plain (weight_type_call_type "set" [.ref l] []) rfl]
  have h1 := PySem.F.called_set.notType
  have h2 := PySem.F.called_set.canCreate
  have hct := PySem.F.typeCall_set_1 (.ref l)
  repeat (any_goals (first | assumption | wp_step))
  refine codeAny_mono (code_set_led1 (.ref l) (E := E) (Q₁ := fun obj s₁ => obj = .ref s.heap.objs.size ∧ s₁ = { s with heap := s.heap.push (emptyObj w) }) ⟨rfl, rfl⟩) fun r s₁ hr => ?_
  cases r with
  | error e => exact hr
  | ok fl =>
    cases fl with
    | ret obj =>
      obtain ⟨rfl, rfl⟩ := hr
      have hS : (s.heap.push (emptyObj w)).get? s.heap.objs.size = some (emptyObj w) := Heap.get?_push_size _ rfl
      have hT : Shared.TypeIs { s with heap := s.heap.push (emptyObj w) } (.ref s.heap.objs.size) "set" := ⟨_, hS, rfl⟩
      have hli := PySem.F.called_set.init.lookup
      have hbi := PySem.F.called_set.init.bind (.ref s.heap.objs.size)
      repeat (any_goals (first | assumption | wp_step))
      refine codeAny_mono (codeAny_call_builtin (R := wants (fun r s₂ => r = .none ∧ ∃ h' tk ys, s₂ = { s with heap := h', toks := tk } ∧ SetX P w h' s.heap.objs.size ys ∧ (∀ x, x ∈ ys ↔ x ∈ xs) ∧ ys.length ≤ xs.length ∧
          (∀ b o, s.heap.get? b = some o → h'.get? b = some o)) E) PySem.F.called_set.init.plain PySem.F.entry_set_init (check_set_init_1 hT ?_)) fun r₂ s₂ hr₂ => ?_
      · have hh3 : A.in1.in1.in1.handled = none := by simp [hh]
        have hz1 : (s.heap.push (emptyObj w)).objs.size = s.heap.objs.size + 1 := Heap.size_push ..
        rcases hl with hl | hl
        · obtain ⟨ol, hol, hcl, nl, hdl⟩ := hl
          obtain ⟨ocls, odict, odata, oslots⟩ := ol
          simp only at hcl hdl
          subst hcl; subst hdl
          have hol' : (s.heap.push (emptyObj w)).get? l = some { cls := .type "list", dict := odict, data := .seq items nl, slots := oslots } := Heap.get?_push_of_some _ hol
          have hsls := PySem.F.sub_list_set
          have hslf := PySem.F.sub_list_frozenset
          have hne : (Value.type "list" == Value.type "dict") = false := by decide
          have hl1 : (s.heap.push (emptyObj w)).IsList l items := ⟨_, hol', rfl, nl, rfl⟩
          unfold Builtin.«set.__init__» noKeywords Builtin.Frozenset.updateFrom
          generalize hPI : pyIter = PI
          wp_walk
          subst hPI
          refine wpAny_pyIter_list hl1 ?_
          refine wpAny_bind (wpAny_runValue ?_)
          have hlS : l < s.heap.objs.size := Heap.lt_size hol
          have hneI : l ≠ (s.heap.push (emptyObj w)).objs.size := by
            rw [hz1]
            exact Nat.ne_of_lt (Nat.lt_succ_of_lt hlS)
          have hSf : s.heap.objs.size ∉ [(s.heap.push (emptyObj w)).objs.size, l] := by
            simp only [List.mem_cons, List.mem_singleton, List.not_mem_nil, or_false, not_or]
            rw [hz1]
            exact ⟨Nat.ne_of_lt (Nat.lt_succ_self _), Nat.ne_of_gt hlS⟩
          have hget : ((s.heap.push (emptyObj w)).push { cls := .type "list_iterator", data := .fields #[.ref l, .int 0 0] }).get? s.heap.objs.size = some (emptyObj w) := Heap.get?_push_of_some _ hS
          refine fill_loop ((Walks.list hh3 _ l hneI items).toS) s.heap.objs.size hSf xs hisz hval (by omega) (items.size - 0) 0 _ [] (by omega) (Nat.zero_le _)
            ⟨⟨_, Heap.get?_push_size _ rfl, rfl, rfl⟩, (hl1.push _)⟩ (setX_fresh hget) (fun x => Iff.rfl) (Nat.le_refl _) ?hR
          case hR =>
            intro s' ys hm hS' hmm hlen
            obtain ⟨h', g', d', tk', os'⟩ := s'
            have eg : g' = s.gens := hm.gens
            have ed : d' = s.drawn := hm.drawn
            have eo : os' = s.os := hm.os
            subst eg; subst ed; subst eo
            show wpAny _ _ _ _ _ _
            refine wpAny_pure ?_
            show wpAny _ _ (ret Value.none) _ _ _
            refine wpAny_pure ⟨rfl, h', tk', ys, rfl, hS', hmm, by omega, fun b o e => ?_⟩
            have hb0 : b < s.heap.objs.size := Heap.lt_size e
            refine hm.heap b o ?_ (Heap.get?_push_of_some _ (Heap.get?_push_of_some _ e))
            simp only [List.mem_cons, List.mem_singleton, List.not_mem_nil, or_false, not_or]
            rw [hz1]
            exact ⟨Nat.ne_of_lt hb0, Nat.ne_of_lt (Nat.lt_succ_of_lt hb0)⟩
        · obtain ⟨ol, hol, hcl, nl, hdl⟩ := hl
          obtain ⟨ocls, odict, odata, oslots⟩ := ol
          simp only at hcl hdl
          subst hcl; subst hdl
          have hol' : (s.heap.push (emptyObj w)).get? l = some { cls := .type "tuple", dict := odict, data := .seq items nl, slots := oslots } := Heap.get?_push_of_some _ hol
          have hsls := PySem.F.sub_tuple_set
          have hslf := PySem.F.sub_tuple_frozenset
          have hne : (Value.type "tuple" == Value.type "dict") = false := by decide
          have hl1 : (s.heap.push (emptyObj w)).IsTuple l items := ⟨_, hol', rfl, nl, rfl⟩
          unfold Builtin.«set.__init__» noKeywords Builtin.Frozenset.updateFrom
          generalize hPI : pyIter = PI
          wp_walk
          subst hPI
          refine wpAny_pyIter_tuple hl1 ?_
          refine wpAny_bind (wpAny_runValue ?_)
          have hlS : l < s.heap.objs.size := Heap.lt_size hol
          have hneI : l ≠ (s.heap.push (emptyObj w)).objs.size := by
            rw [hz1]
            exact Nat.ne_of_lt (Nat.lt_succ_of_lt hlS)
          have hSf : s.heap.objs.size ∉ [(s.heap.push (emptyObj w)).objs.size, l] := by
            simp only [List.mem_cons, List.mem_singleton, List.not_mem_nil, or_false, not_or]
            rw [hz1]
            exact ⟨Nat.ne_of_lt (Nat.lt_succ_self _), Nat.ne_of_gt hlS⟩
          have hget : ((s.heap.push (emptyObj w)).push { cls := .type "tuple_iterator", data := .fields #[.ref l, .int 0 0] }).get? s.heap.objs.size = some (emptyObj w) := Heap.get?_push_of_some _ hS
          refine fill_loop ((Walks.tuple hh3 _ l hneI items).toS) s.heap.objs.size hSf xs hisz hval (by omega) (items.size - 0) 0 _ [] (by omega) (Nat.zero_le _)
            ⟨⟨_, Heap.get?_push_size _ rfl, rfl, rfl⟩, (hl1.push _)⟩ (setX_fresh hget) (fun x => Iff.rfl) (Nat.le_refl _) ?hR
          case hR =>
            intro s' ys hm hS' hmm hlen
            obtain ⟨h', g', d', tk', os'⟩ := s'
            have eg : g' = s.gens := hm.gens
            have ed : d' = s.drawn := hm.drawn
            have eo : os' = s.os := hm.os
            subst eg; subst ed; subst eo
            show wpAny _ _ _ _ _ _
            refine wpAny_pure ?_
            show wpAny _ _ (ret Value.none) _ _ _
            refine wpAny_pure ⟨rfl, h', tk', ys, rfl, hS', hmm, by omega, fun b o e => ?_⟩
            have hb0 : b < s.heap.objs.size := Heap.lt_size e
            refine hm.heap b o ?_ (Heap.get?_push_of_some _ (Heap.get?_push_of_some _ e))
            simp only [List.mem_cons, List.mem_singleton, List.not_mem_nil, or_false, not_or]
            rw [hz1]
            exact ⟨Nat.ne_of_lt hb0, Nat.ne_of_lt (Nat.lt_succ_of_lt hb0)⟩
      · cases r₂ with
        | error e => exact hr₂
        | ok fl₂ =>
          cases fl₂ with
          | ret r =>
            obtain ⟨rfl, h', tk, ys, rfl, hS', hmm, hlen, hk'⟩ := hr₂
            repeat (any_goals (first | assumption | wp_step))
            exact h _ _ _ hS' hmm hlen hk'
          | _ => exact hr₂.elim
    | _ => exact hr.elim

/-! ### sorted(set) -/
theorem strs_of : ∀ (l : List Value), (∀ v ∈ l, ∃ k tk, v = Value.str k tk) → StrsAre l (l.map strOf)
  | [], _ => .nil
  | v :: l, h => by
    obtain ⟨k, tk, rfl⟩ := h v List.mem_cons_self
    exact .cons k tk (strs_of l fun u hu => h u (List.mem_cons_of_mem _ hu))
theorem sorted_setX {a : Addr} {l : List Str} {Q : Value → Shared → Prop} (R : SetX P w s.heap a l) (hh : A.handled = none) (hlen : l.length + 1 < scanBound)
    (hQ : ∀ s' p (out : Array Value) (c : Nat) (ys : List Str), (∀ b o, s.heap.get? b = some o → s'.heap.get? b = some o) → s'.gens = s.gens → s'.os = s.os → s.heap.objs.size ≤ p →
      s'.heap.get? p = some (seqObj "list" out c) → StrsAre out.toList ys → sortedS ys = true → ys.Perm l → Q (.ref p) s') :
    wpAny (model P w) A (call (.builtin "sorted") [.ref a]) Q E s := by
  obtain ⟨⟨es, ep, t⟩, ho, F, nd, r, hl⟩ := R
  have hf : t.fits es.size = true := F.fit
  have hsz : es.size = l.length := F.sz
  refine Calls.call_function_entry kind_sorted plain_sorted entry_sorted (args_sorted1 _) ?_
  unfold Builtin.«sorted»
  refine wpAny_bind (m := checkCount "sorted" 1 1 _) (wpAny_pure ?_)
  refine wpAny_bind (collect_set (A := A.in1) hh ⟨_, ho, rfl, rfl⟩ hf (by show es.size < scanBound; rw [hsz]; omega) r hl fun s1 vs k1 hz g1 o1 pm => ?_)
  have hvl : vs.length = l.length := by rw [pm.length_eq, List.length_map, Array.length_toList]; exact hsz
  have hst : ∀ v ∈ vs, ∃ k tk, v = Value.str k tk ∧ k ∈ l := fun v hv => by
    obtain ⟨e, he, q⟩ := List.mem_map.mp (pm.mem_iff.mp hv)
    obtain ⟨⟨k, h1, _⟩, _⟩ := F.el e he
    obtain ⟨tk, h2⟩ := Value.isStrOf_shape h1
    exact ⟨k, tk, by rw [← q]; exact h2, (F.mem k).mpr ⟨e, he, h1⟩⟩
  have hI : StrsAre vs (vs.map strOf) := strs_of vs fun v hv => let ⟨k, tk, e, _⟩ := hst v hv; ⟨k, tk, e⟩
  have pk : (vs.map strOf).Perm l := by
    refine (perm_of_sub l (vs.map strOf) nd (fun x hx => ?_) (by rw [List.length_map, hvl])).symm
    obtain ⟨e, he, h1⟩ := (F.mem x).mp hx
    obtain ⟨tk, h2⟩ := Value.isStrOf_shape h1
    exact List.mem_map.mpr ⟨e.2, pm.mem_iff.mpr (List.mem_map.mpr ⟨e, he, rfl⟩), by rw [h2]; rfl⟩
  have hline : vs.length ≤ sizeLine := by
    rw [hvl, sizeLine_eq]
    have z : scanBound = 4096 := rfl
    omega
  refine wpAny_bind (wpAny_newList ?_ hline)
  have hoL : (s1.heap.push (seqObj "list" vs.toArray 0)).get? s1.heap.objs.size = some (seqObj "list" vs.toArray 0) := Heap.get?_push_size _ rfl
  refine wpAny_bind (wpAny_holding (wpAny_call_entry slot_list_sort ⟨_, hoL, rfl⟩ entry_list_sort (list_sort_treeKAny strKind_oneLt hoL hI.keysOf (fun v₁ v₂ rest e => keyKind_strs (by rw [← e]; exact hI)) hline fun st' hp hs => ⟨_, rfl, ?_⟩) (args_list_sort _)))
  obtain ⟨ys, a1, a2, a3⟩ := sorted_out_str hI hp hs
  obtain ⟨c, hc⟩ := sortedHeap_at (vs := vs) (out := (arrOf st').map (·.2)) hoL
  refine wpAny_pure ⟨_, rfl, hQ _ s1.heap.objs.size _ c ys (fun b u e => ?_) g1 o1 hz hc a1 a3 (a2.trans pk)⟩
  have q := k1 b u e
  have hlt := Heap.lt_size q
  show (sortedHeap (s1.heap.push (seqObj "list" vs.toArray 0)) s1.heap.objs.size vs _).get? b = some u
  rw [sortedHeap_old (Nat.ne_of_lt hlt) (by rw [size_push']; exact Nat.lt_succ_of_lt hlt)]
  exact Heap.get?_push_of_some _ q
end

/-! ### over the layer -/
def SetV (P : Program) (w : World) (a : Addr) (l : List Str) : HO := .ext fun h => SetX P w h a l
section
variable {X : Cx}
theorem setV_new {P : Program} {w : World} {H : Hp} {h : Heap} {a : Addr} {l : List Str} (R : SetX P w h a l) : ObjOk P w H h a (SetV P w a l) := by
  have ⟨o, ho, _⟩ := R
  exact ⟨R, ⟨_, ho⟩, fun h1 h2 p k => SetX.at p k⟩
/-- set(xs), xs a list or a tuple of texts -/
def rSetX (K : PySem.W.Frag) (P : Program) (w : World) : List V → Hp → VK → Prop := fun vs H Q => ∃ (a : Addr) (xs : List Str), vs = [V.ref a] ∧ (SqL K H a (xs.map V.str) ∨ SqT K H a (xs.map V.str)) ∧ xs.length < 4000 ∧
  ∀ p ys, H p = none → (∀ x, x ∈ ys ↔ x ∈ xs) → ys.Nodup → ys.length ≤ xs.length → Q (.ref p) (upd H p (SetV P w p ys))
theorem cr_setX (hc : X.calm = true) : CallR X (.type "set") (rSetX X.K X.prog X.w) := by
  intro pins s σ H vs us Q I r h
  obtain ⟨a, xs, rfl, hs, hlen, q⟩ := h
  rw [Vals.ref1 r]
  have hn : H s.heap.objs.size = none := I.hok.fresh (Nat.le_refl _)
  have hz : xs.length + 1 < scanBound := by
    have z : scanBound = 4096 := rfl
    omega
  obtain ⟨its, rv, pl⟩ : ∃ its : List Value, Vals (xs.map V.str) its ∧ (s.heap.IsList a its.toArray ∨ s.heap.IsTuple a its.toArray) := by
    rcases hs with hs | hs
    · obtain ⟨its, rv, pl, _⟩ := I.list hs
      exact ⟨its, rv, .inl pl.isList⟩
    · obtain ⟨its, rv, pl, _⟩ := I.tuple hs
      exact ⟨its, rv, .inr pl⟩
  refine call_set (P := X.prog) (w := X.w) (I.ok.hd hc) pl (by simpa using rv.strs) hz fun h' tk ys R hm hl k => ?_
  have nd : ys.Nodup := by
    obtain ⟨_, _, _, z, _⟩ := R
    exact z
  exact ⟨.ref s.heap.objs.size, upd H s.heap.objs.size (SetV X.prog X.w s.heap.objs.size ys), I.laid (t' := tk) k (Nat.le_refl _) (setV_new R), rfl, q _ ys hn hm nd hl⟩
/-- sorted(a set of texts) -/
def rSortX (P : Program) (w : World) : List V → Hp → VK → Prop := fun vs H Q => ∃ (a : Addr) (l : List Str), vs = [V.ref a] ∧ H a = some (SetV P w a l) ∧ l.length < 4000 ∧
  ∀ ys p, ys.Perm l → sortedS ys = true → H p = none → Q (.ref p) (upd H p (.lst (ys.map V.str)))
theorem cr_sortX (hc : X.calm = true) : CallR X (.builtin "sorted") (rSortX X.prog X.w) := by
  intro pins s σ H vs us Q I r h
  obtain ⟨a, l, rfl, ha, hlen, q⟩ := h
  have R : SetX X.prog X.w s.heap a l := (I.hok a _ ha).1
  rw [Vals.ref1 r]
  have hz : l.length + 1 < scanBound := by
    have z : scanBound = 4096 := rfl
    omega
  refine sorted_setX R (I.ok.hd hc) hz fun s' p out c ys k g o hp hg hi hs pm => ?_
  have hl2 : (ys.map V.str).length ≤ sizeLine := by
    rw [List.length_map, pm.length_eq, sizeLine_eq]
    omega
  have hn : H p = none := I.hok.fresh hp
  have J : Inv X pins σ (upd H p (.lst (ys.map V.str))) { s with heap := s'.heap, gens := s'.gens, drawn := s'.drawn, toks := s'.toks } :=
    I.call (ch := []) (Un.laid k hp hn) (I.hok.laid k hp ⟨hl2, out.toList, c, vals_of_strs hi, hg⟩) (by rw [g]; exact I.bare) (fun _ z => nomatch z)
  have e : s' = { s with heap := s'.heap, gens := s'.gens, drawn := s'.drawn, toks := s'.toks } := by
    cases s'
    cases s
    cases o
    rfl
  rw [e]
  exact ⟨.ref p, _, J, rfl, q ys p pm hs hn⟩
end
end Sx
/-! Calls of the module's own defs by their promises, walks over a list or a tuple, data that stays. -/
namespace Bx
open PySem PySem.Spec PyProof.Rows L2 TL

/-- the module's name x holds a def that keeps sp, by at most level k -/
structure Cal (P : Program) (w : World) (K : PySem.W.Frag) (mg : Str → Option Value) (base : Heap) (x : Str) (k : Nat) (ps : List Str) (sp : Sp) : Prop where
  ex : ∃ (f : Addr) (fd : FuncData), FnOk P w K mg base CX0 k f fd ps sp ∧ mg x = some (.ref f) ∧ PySem.W.keepIn K (.ref f) = true ∧ Binds K fd ps []
/-- the same of a def with a star parameter alone -/
structure CalR (P : Program) (w : World) (K : PySem.W.Frag) (mg : Str → Option Value) (base : Heap) (x : Str) (k : Nat) (sp : Sp) : Prop where
  ex : ∃ f : Addr, FnR P w K mg base CX0 k f sp ∧ mg x = some (.ref f) ∧ PySem.W.keepIn K (.ref f) = true
section
variable {X : Cx} {x : Str} {k : Nat} {ps : List Str} {sp : Sp} {e : Expr} {es : List Expr} {t : TA} {p pos : Pos}
def tCal (sp : Sp) (t : TA) : TE := fun σ H Q => t σ H fun vs H1 => sp vs H1 Q E0
theorem pe_cal (c : Cal X.prog X.w X.K X.mg X.base x k ps sp) (hr : Room k X.A) (ha : PA X (e :: es) t) (hg : Gl X x := by rfl) (hdb : (x == ("__debug__" : Str)) = false := by decide)
    (he : starEach (e :: es) X.env = (false, eval e X.env) :: starEach es X.env := by rfl) (hpl : (backTo pos (starEach es X.env)).any (·.1) = false := by rfl) : PE X (.Call (.Name x p) (e :: es) [] pos) (tCal sp t) := by
  obtain ⟨f, fd, ok, g, kp, b⟩ := c.ex
  have z := pe_call (E := E0) ok hr hg g kp b .nil pass0 ha hdb he hpl (p := p)
  refine ⟨fun pins s σ H Q I h => z.run pins s σ H Q I ?_⟩
  unfold tCall
  simp only [List.append_nil]
  exact h
theorem pe_cal0 (c : Cal X.prog X.w X.K X.mg X.base x k ps sp) (hr : Room k X.A) (hg : Gl X x := by rfl) (hdb : (x == ("__debug__" : Str)) = false := by decide) : PE X (.Call (.Name x p) [] [] pos) (tCal sp tNil) := by
  obtain ⟨f, fd, ok, g, kp, b⟩ := c.ex
  have z := pe_call0 (E := E0) (pos := pos) ok hr hg g kp b .nil pass0 hdb (p := p)
  refine ⟨fun pins s σ H Q I h => z.run pins s σ H Q I ?_⟩
  exact h
theorem pe_calR (c : CalR X.prog X.w X.K X.mg X.base x k sp) (hr : Room k X.A) (ha : PA X (e :: es) t) (hg : Gl X x := by rfl) (hdb : (x == ("__debug__" : Str)) = false := by decide)
    (he : starEach (e :: es) X.env = (false, eval e X.env) :: starEach es X.env := by rfl) (hpl : (backTo pos (starEach es X.env)).any (·.1) = false := by rfl) : PE X (.Call (.Name x p) (e :: es) [] pos) (tCal sp t) := by
  obtain ⟨f, ok, g, kp⟩ := c.ex
  refine ⟨fun pins s σ H Q I h => ?_⟩
  refine wpAny_Call_Name_kw (ld_glob I hg g ?_ hdb)
  refine PySem.W.callWith_K (h₀ := X.base) I.ok.mod.kin kp (thn (ha.run pos pins s σ H _ I h) fun us s1 ⟨vs, H1, I1, r, q⟩ => ⟨I1.kIn, ?_⟩) he hpl
  exact wpAny_call (run_fnR ok hr pass0 I1 r q)
theorem pe_calR0 (c : CalR X.prog X.w X.K X.mg X.base x k sp) (hr : Room k X.A) (hg : Gl X x := by rfl) (hdb : (x == ("__debug__" : Str)) = false := by decide) : PE X (.Call (.Name x p) [] [] pos) (tCal sp tNil) := by
  obtain ⟨f, ok, g, kp⟩ := c.ex
  refine ⟨fun pins s σ H Q I h => ?_⟩
  refine wpAny_Call_Name_kw (ld_glob I hg g ?_ hdb)
  exact PySem.W.callWith_K0 I.kIn kp (wpAny_call (run_fnR ok hr pass0 I .nil h))

/-- x(*y) -/
theorem pe_calS {te : TE} {sp_ : Pos} (c : CalR X.prog X.w X.K X.mg X.base x k sp) (hr : Room k X.A) (he : PE X e te) (hg : Gl X x := by rfl) (hdb : (x == ("__debug__" : Str)) = false := by decide) (hst : starEach [.Starred e sp_] X.env = [(true, eval e X.env)] := by rfl) :
    PE X (.Call (.Name x p) [.Starred e sp_] [] pos) (fun σ H Q => te σ H fun y H1 => ∃ a xs, y = V.ref a ∧ (SqT X.K H1 a xs ∨ SqL X.K H1 a xs) ∧ sp xs H1 Q E0) := by
  obtain ⟨f, ok, g, kp⟩ := c.ex
  exact StX.pe_callS1 ok hr kp hg g pass0 he hdb hst

/-- a walk over a list or a tuple -/
def SeqCase (K : PySem.W.Frag) (a : Addr) (H : Hp) (R : It → Hp → Prop) : Prop := ((∃ xs, SqL K H a xs) ∧ R (Itl K a) H) ∨ ((∃ xs, SqT K H a xs) ∧ R (Itt K a) H)
def iSeq (K : PySem.W.Frag) (tl : TE) : TI := fun σ H R => tl σ H fun x H1 => ∃ a, x = .ref a ∧ SeqCase K a H1 R
theorem pi_seq {tg l : Expr} {tl : TE} (hl : PE X l tl) : PI X tg l (iSeq X.K tl) := by
  refine ⟨fun pins s σ H R I h => ?_⟩
  refine thn (hl.run pins s σ H _ I h) fun v s1 ⟨x, H1, I1, r1, q1⟩ => ?_
  obtain ⟨a, e, q1⟩ := q1
  subst e
  cases r1
  rcases q1 with ⟨⟨xs, hq⟩, q⟩ | ⟨⟨xs, hq⟩, q⟩
  · obtain ⟨its, rv, p, hz⟩ := I1.list hq
    refine wpAny_pyIter_list p.isList ?_
    exact pi_one (tk := s1.toks) I1 _ (turn_list a _) ⟨_, Heap.get?_push_size _ rfl, rfl, rfl⟩ q
  · obtain ⟨its, rv, p, hz⟩ := I1.tuple hq
    refine wpAny_pyIter_tuple (show s1.heap.IsTuple a its.toArray from p) ?_
    exact pi_one (tk := s1.toks) I1 _ (turn_tuple a _) ⟨_, Heap.get?_push_size _ rfl, rfl, rfl⟩ q
end

/-! ### rules with the written part named (within a block) -/
section
variable {X : Cx} {K : PySem.W.Frag}
theorem ix_listK (h : X.K = K) : IxR X (rIxL K) := h ▸ ix_list
theorem ix_tupK (h : X.K = K) : IxR X (rIxT K) := h ▸ ix_tup
theorem op_in_seqK (h : X.K = K) : OpR X (compareOp .In) (rIn K false) := h ▸ op_in_seq
theorem call_list_ofK (h : X.K = K) : CallR X (.type "list") (fun xs H Q => ∃ p ys, xs = [.ref p] ∧ (SqL K H p ys ∨ SqT K H p ys) ∧ ∀ l, H l = none → Q (.ref l) (upd H l (.lst ys))) := by
  subst h
  exact call_list_of
theorem call_tuple_ofK (h : X.K = K) : CallR X (.type "tuple") (fun xs H Q => ∃ p ys, xs = [.ref p] ∧ ((SqL K H p ys ∧ ∀ l, H l = none → Q (.ref l) (upd H l (.tup ys))) ∨ (SqT K H p ys ∧ Q (.ref p) H))) := by
  subst h
  exact call_tuple_of
theorem call_len_seqK (h : X.K = K) : CallR X (.builtin "len") (fun xs H Q => ∃ p ys, xs = [.ref p] ∧ (SqL K H p ys ∨ SqT K H p ys) ∧ Q (.int ys.length) H) := by
  subst h
  exact call_len_seq
theorem cr_allK (h : X.K = K) (hc : X.calm = true) : CallR X (.builtin "all") (rAll K) := by
  subst h
  exact cr_all hc
theorem pg_tupK {es : List Expr} {k : Nat} {t : TGs} {n : Nat} {pos : Pos} (h : X.K = K) (hc : X.calm = true) (hs : PGs X es t)
    (hn : (assignEach es X.env).length = n := by rfl) (hst : (assignEach es X.env).findIdx? (·.1) = none := by rfl) : PG X (.Tuple es k pos) (gTup K n t) := by
  subst h
  exact pg_tup hc hs hn hst
theorem op_notIn_seqK (h : X.K = K) : OpR X (compareOp .NotIn) (rIn K true) := h ▸ op_notIn_seq
end

/-! ### heaps -/
theorem same_new {H : Hp} {p : Addr} {o : HO} (h : H p = none) : Same H (upd H p o) := fun b x e => by
  rw [upd_ne (ne_of_none e h)]
  exact e
theorem same_at {H H2 : Hp} {p : Addr} {o : HO} (h : H p = none) (s : Same H H2) : Same H (upd H2 p o) := fun b x e => by
  rw [upd_ne (ne_of_none e h)]
  exact s b x e
theorem Same.tup {K : PySem.W.Frag} {H H' : Hp} {a : Addr} {xs : List V} (e : Same H H') (h : SqT K H a xs) : SqT K H' a xs := by
  rcases h with (h | ⟨o, h⟩) | h
  · exact .inl (.inl (e _ _ h))
  · exact .inl (.inr ⟨o, e _ _ h⟩)
  · exact .inr h
theorem sq {K : PySem.W.Frag} {H : Hp} {a : Addr} {xs : List V} (h : H a = some (.lst xs)) : SqL K H a xs := Or.inl (Or.inl h)
theorem sqt {K : PySem.W.Frag} {H : Hp} {a : Addr} {xs : List V} (h : H a = some (.tup xs)) : SqT K H a xs := Or.inl (Or.inl h)
/-- all that was tracked but a is as it was -/
def SameBut (a : Addr) (H H' : Hp) : Prop := ∀ b o, b ≠ a → H b = some o → H' b = some o
theorem SameBut.refl (a : Addr) (H : Hp) : SameBut a H H := fun _ _ _ h => h
theorem SameBut.trans {a : Addr} {H H1 H2 : Hp} (x : SameBut a H H1) (y : SameBut a H1 H2) : SameBut a H H2 := fun b o n h => y b o n (x b o n h)
theorem Same.but {a : Addr} {H H' : Hp} (x : Same H H') : SameBut a H H' := fun b o _ h => x b o h
theorem SameBut.upd {a : Addr} {H : Hp} {o : HO} : SameBut a H (upd H a o) := fun b x n h => by
  rw [upd_ne n]
  exact h
/-- new objects do not disturb: what was tracked at H, where a was not -/
theorem SameBut.same {a : Addr} {H H1 H2 : Hp} (x : Same H H1) (n : H a = none) (y : SameBut a H1 H2) : Same H H2 := fun b o h => y b o (ne_of_none h n) (x b o h)
theorem sz {n : Nat} (h : n ≤ 100000) : n ≤ sizeLine := Nat.le_trans h (by decide)
theorem szl {n : Nat} (h : n < 100000) : n < sizeLine := Nat.lt_of_lt_of_le h (by decide)
/-- the source of draws at a -/
def Src (H : Hp) (a : Addr) : Prop := ∃ n c : Int, H a = some (.lst [.int n, .int c])

/-! ### data -/
mutual
theorem dp_same {K : PySem.W.Frag} {H H' : Hp} (e : Same H H') : ∀ {v : V} {d : PyData}, Dp K H v d → Dp K H' v d
  | _, _, .non => .non
  | _, _, .bl b => .bl b
  | _, _, .int i => .int i
  | _, _, .str x => .str x
  | _, _, .lst h a => .lst (e.seq h) (dpAll_same e a)
  | _, _, .tup h a => .tup (Bx.Same.tup e h) (dpAll_same e a)
theorem dpAll_same {K : PySem.W.Frag} {H H' : Hp} (e : Same H H') : ∀ {vs : List V} {ds : List PyData}, DpAll K H vs ds → DpAll K H' vs ds
  | _, _, .nil => .nil
  | _, _, .cons h a => .cons (dp_same e h) (dpAll_same e a)
end
theorem dp_strs {K : PySem.W.Frag} {H : Hp} : ∀ ys : List Str, DpAll K H (ys.map V.str) (ys.map PyData.str)
  | [] => .nil
  | y :: ys => .cons (.str y) (dp_strs ys)
theorem dp_ints {K : PySem.W.Frag} {H : Hp} : ∀ ys : List Int, DpAll K H (ys.map V.int) (ys.map PyData.int)
  | [] => .nil
  | y :: ys => .cons (.int y) (dp_ints ys)
theorem dp_map {K : PySem.W.Frag} {H : Hp} {α : Type} {f : α → V} {g : α → PyData} : ∀ {l : List α}, (∀ x ∈ l, Dp K H (f x) (g x)) → DpAll K H (l.map f) (l.map g)
  | [], _ => .nil
  | x :: l, h => .cons (h x List.mem_cons_self) (dp_map fun y hy => h y (List.mem_cons_of_mem _ hy))

/-! ### walks with any body -/
theorem walk_any {J : It} {n : Nat} {G : Hp → Prop} {Y : Nat → Hp → V → Hp → Prop} (w : Walk J n G Y) {Z : Hp → Prop} {B : (Hp → Prop) → V → Hp → Prop} {H0 : Hp} (Pv : Nat → Hp → Prop) (h0 : Pv 0 H0) (hG : ∀ i H, i ≤ n → Pv i H → G H)
    (hs : ∀ i x H H', i < n → Pv i H → Y i H x H' → B (Pv (i + 1)) x H') (hd : ∀ H, Pv n H → Z H) :
    ∃ W : Nat → Nat → Hp → Prop, (∃ m, W 0 m H0) ∧ ∀ i m H, W i m H → (J.stop i H ∧ Z H) ∨ (J.go i H ∧ ∃ Nx : Hp → Prop, (∀ H', Nx H' → ∃ m', m' < m ∧ W (i + 1) m' H') ∧ ∀ x H', J.yld i H x H' → B Nx x H') := by
  refine ⟨fun i m H => m = n - i ∧ i ≤ n ∧ Pv i H, ⟨n, by simp, Nat.zero_le _, h0⟩, ?_⟩
  rintro i m H ⟨rfl, hi, p⟩
  have q := hG i H hi p
  by_cases hlt : i < n
  · exact .inr ⟨w.goes i H hlt q, Pv (i + 1), fun H' p' => ⟨n - (i + 1), by omega, rfl, hlt, p'⟩, fun x H' y => hs i x H H' hlt p (w.yields i H x H' hlt q y)⟩
  · have e : i = n := by omega
    subst e
    exact .inl ⟨w.stops H q, hd H p⟩

/-! ### a def with a star parameter alone -/
theorem okStar {P : Program} {w : World} {K : PySem.W.Frag} {mg : Str → Option Value} {base : Heap} {x qual pn : Str} {st : Stmt} {f : Addr} {fd : FuncData} {N : List Str} {k : Nat} {sp : Sp} (F : Fun K x qual st f fd) (S : FnScope N [pn] (defScope st))
    (hb : ∀ (kV doc pm : Value) (an : Option Addr) (cdv ct : Value) (rest : List Value), bindArgs (PySem.W.fnOf x qual (defArgs st) (defBody st) (defScope st) .none kV doc pm an cdv ct) ⟨rest, []⟩ = (newTuple rest >>= fun t => pure [(pn, t)]))
    (hbody : ∀ (cdv : Value) (A : Around) (outer : List Env) (s : Shared) (H : Hp) (vs : List V) (Q : VK) (E : XK), Room k (A.deeper (envOfC qual (defScope st) s.heap.objs.size f cdv)) → sp vs H Q E →
      ∃ t, PSs (cxOf CX0 P w K mg base N qual (defScope st) f cdv A outer s H E) (defBody st) t ∧ t { nx := fun _ H' => Q .non H', rt := Q } (start N vs) H) :
    FnR P w K mg base CX0 (k + 1) f (fun vs H Q E => vs.length ≤ sizeLine ∧ ∀ p, H p = none → sp [V.ref p] (upd H p (.tup vs)) Q E) := by
  obtain ⟨oc, od, kV, doc, pm, an, cdv, ct, osl, rfl, lk, hcd⟩ := F.ex
  have z := StX.fn_star (P := P) (w := w) (K := K) (mg := mg) (base := base) (CX := CX0) (ps := []) (sp := sp) lk hcd S StX.cxUp_none (fun us rest hl => by
    have e : us = [] := List.length_eq_zero_iff.mp hl
    subst e
    exact hb kV doc pm an cdv ct rest) (hbody cdv)
  exact z.imp fun vs H Q E h => ⟨[], vs, rfl, rfl, h.1, h.2⟩

/-- one parameter ahead of the star -/
theorem okStar1 {P : Program} {w : World} {K : PySem.W.Frag} {mg : Str → Option Value} {base : Heap} {x qual p1 pn : Str} {st : Stmt} {f : Addr} {fd : FuncData} {N : List Str} {k : Nat} {sp : Sp} (F : Fun K x qual st f fd) (S : FnScope N [p1, pn] (defScope st))
    (h0 : ∀ (kV doc pm : Value) (an : Option Addr) (cdv ct a : Value), bindArgs (PySem.W.fnOf x qual (defArgs st) (defBody st) (defScope st) .none kV doc pm an cdv ct) ⟨[a], []⟩ = (newTuple [] >>= fun t => pure [(p1, a), (pn, t)]))
    (h1 : ∀ (kV doc pm : Value) (an : Option Addr) (cdv ct a r : Value) (rs : List Value), bindArgs (PySem.W.fnOf x qual (defArgs st) (defBody st) (defScope st) .none kV doc pm an cdv ct) ⟨a :: r :: rs, []⟩ = (newTuple (r :: rs) >>= fun t => pure [(p1, a), (pn, t)]))
    (hbody : ∀ (cdv : Value) (A : Around) (outer : List Env) (s : Shared) (H : Hp) (vs : List V) (Q : VK) (E : XK), Room k (A.deeper (envOfC qual (defScope st) s.heap.objs.size f cdv)) → sp vs H Q E →
      ∃ t, PSs (cxOf CX0 P w K mg base N qual (defScope st) f cdv A outer s H E) (defBody st) t ∧ t { nx := fun _ H' => Q .non H', rt := Q } (start N vs) H) :
    FnR P w K mg base CX0 (k + 1) f (fun vs H Q E => ∃ v rest, vs = v :: rest ∧ rest.length ≤ sizeLine ∧ ∀ p, H p = none → sp [v, V.ref p] (upd H p (.tup rest)) Q E) := by
  obtain ⟨oc, od, kV, doc, pm, an, cdv, ct, osl, rfl, lk, hcd⟩ := F.ex
  have z := StX.fn_star (P := P) (w := w) (K := K) (mg := mg) (base := base) (CX := CX0) (ps := [p1]) (sp := sp) lk hcd S StX.cxUp_none
    (StX.bind_star1 (B := fun us => bindArgs (PySem.W.fnOf x qual (defArgs st) (defBody st) (defScope st) .none kV doc pm an cdv ct) ⟨us, []⟩) (h0 kV doc pm an cdv ct) (h1 kV doc pm an cdv ct)) (hbody cdv)
  exact z.imp fun vs H Q E ⟨v, rest, e, hl, h⟩ => ⟨[v], rest, e, rfl, hl, h⟩

/-! ### a walk over a list or a tuple, told once -/
theorem seq_case {K : PySem.W.Frag} {H : Hp} {a : Addr} {xs : List V} {R : It → Hp → Prop} (h : SqL K H a xs ∨ SqT K H a xs) (k : ∀ (J : It) (G : Hp → Prop), Walk J xs.length G (YAt xs) → (∀ H', Same H H' → G H') → R J H) : SeqCase K a H R := by
  rcases h with h | h
  · exact .inl ⟨⟨_, h⟩, k _ _ walk_list fun H' s => s.seq h⟩
  · exact .inr ⟨⟨_, h⟩, k _ _ walk_tup fun H' s => Bx.Same.tup s h⟩
theorem at_map {α : Type} {l : List α} {f : α → V} {i : Nat} {x : V} (h : (l.map f)[i]? = some x) : ∃ y, l[i]? = some y ∧ x = f y := by
  rw [List.getElem?_map] at h
  cases e : l[i]? with
  | none =>
    rw [e] at h
    cases h
  | some y =>
    rw [e] at h
    exact ⟨y, rfl, (Option.some.inj h).symm⟩

/-! ### texts in ascending order -/
theorem rising_at : ∀ (p : Str) (r : List Str), risingS p r = true → ∀ (k : Nat) (x y : Str), (p :: r)[k]? = some x → (p :: r)[k + 1]? = some y → ltCps y.cps.toList x.cps.toList = false
  | p, [], _, k, x, y, _, h2 => by
    simp at h2
  | p, q :: r, h, k, x, y, h1, h2 => by
    have h3 : (!ltCps q.cps.toList p.cps.toList && risingS q r) = true := h
    rw [Bool.and_eq_true] at h3
    cases k with
    | zero =>
      have e1 : p = x := Option.some.inj h1
      have e2 : q = y := Option.some.inj h2
      rw [← e1, ← e2]
      simpa using h3.1
    | succ k => exact rising_at q r h3.2 k x y h1 h2
theorem sorted_at {l : List Str} (h : sortedS l = true) (nd : l.Nodup) {k : Nat} {x y : Str} (h1 : l[k]? = some x) (h2 : l[k + 1]? = some y) : x.cps.toList < y.cps.toList := by
  cases l with
  | nil => cases h1
  | cons p r =>
    have a := rising_at p r h k x y h1 h2
    rw [ltCps_eq] at a
    refine Std.lt_of_le_of_ne (of_decide_eq_false a) fun e => ?_
    have e2 : x = y := ext_tl e
    obtain ⟨i1, e3⟩ := List.getElem?_eq_some_iff.mp h1
    obtain ⟨i2, e4⟩ := List.getElem?_eq_some_iff.mp h2
    have z := List.pairwise_iff_getElem.mp nd k (k + 1) i1 i2 (Nat.lt_succ_self k)
    exact z (e3.trans (e2.trans e4.symm))

/-! ### membership of texts -/
theorem inV_str (x : Str) (ys : List Str) : inV (.str x) (ys.map V.str) = decide (x ∈ ys) := by
  unfold inV
  rw [List.any_map]
  induction ys with
  | nil => rfl
  | cons y ys ih =>
    rw [List.any_cons, ih]
    show ((y == x) || _) = _
    by_cases e : y = x
    · subst e
      simp
    · have e2 : (y == x) = false := by simpa using e
      rw [e2, Bool.false_or]
      by_cases h : x ∈ ys
      · rw [decide_eq_true h, decide_eq_true (List.mem_cons_of_mem _ h)]
      · rw [decide_eq_false h, decide_eq_false (fun z => (List.mem_cons.mp z).elim (fun z => e z.symm) h)]
theorem flat_all (ys : List Str) : (ys.map V.str).all flatV = true := by
  rw [List.all_map, List.all_eq_true]
  intro y _
  rfl
theorem lay_strs : ∀ ys : List Str, (∀ y ∈ ys, PyData.strOk y = true) → PyData.canLayAll0 (ys.map PyData.str) = true ∧ PyData.depthAll (ys.map PyData.str) ≤ 1
  | [], _ => ⟨rfl, by decide⟩
  | y :: ys, h => by
    obtain ⟨a, b⟩ := lay_strs ys fun z hz => h z (List.mem_cons_of_mem _ hz)
    constructor
    · show (PyData.strOk y && PyData.canLayAll0 (ys.map PyData.str)) = true
      rw [a, h y List.mem_cons_self]
      rfl
    · show max (PyData.depth (.str y)) (PyData.depthAll (ys.map PyData.str)) ≤ 1
      exact Nat.max_le.mpr ⟨by first | exact Nat.zero_le _ | decide | exact Nat.le_refl _, b⟩
theorem lay_lists : ∀ L : List (List Str), (∀ ys ∈ L, ∀ y ∈ ys, PyData.strOk y = true) → PyData.canLayAll0 (L.map fun ys => PyData.list (ys.map PyData.str)) = true ∧ PyData.depthAll (L.map fun ys => PyData.list (ys.map PyData.str)) ≤ 2
  | [], _ => ⟨rfl, by decide⟩
  | ys :: L, h => by
    obtain ⟨a, b⟩ := lay_lists L fun z hz => h z (List.mem_cons_of_mem _ hz)
    obtain ⟨c, d⟩ := lay_strs ys (h ys List.mem_cons_self)
    constructor
    · show (PyData.canLayAll0 (ys.map PyData.str) && PyData.canLayAll0 (L.map fun ys => PyData.list (ys.map PyData.str))) = true
      rw [a, c]
      rfl
    · show max (PyData.depthAll (ys.map PyData.str) + 1) (PyData.depthAll (L.map fun ys => PyData.list (ys.map PyData.str))) ≤ 2
      exact Nat.max_le.mpr ⟨by omega, b⟩

/-! ### signs of a written text -/
theorem pick {L : Str} {r : Int} (h0 : 0 ≤ r) (h1 : r < (tl L).length) : ∃ c, atI L.cps.toList r = some c ∧ c ∈ tl L := by
  obtain ⟨n, rfl⟩ := Int.eq_ofNat_of_zero_le h0
  have hn : n < (tl L).length := by omega
  exact ⟨(tl L)[n], atI_nat (List.getElem?_eq_getElem hn), List.getElem_mem hn⟩
end Bx
/-! Data that stands in the heap, beside objects that change; rules told of data. -/
namespace Dx
open PySem PySem.Spec PyProof.Rows L2 Bx TL

/-! ### the heap without some addresses -/
def mn (H : Hp) (S : List Addr) : Hp := fun b => if b ∈ S then none else H b
theorem mn_in {H : Hp} {S : List Addr} {b : Addr} (h : b ∈ S) : mn H S b = none := if_pos h
theorem mn_out {H : Hp} {S : List Addr} {b : Addr} (h : b ∉ S) : mn H S b = H b := if_neg h
theorem mn_same {H : Hp} {S : List Addr} : Same (mn H S) H := fun b o e => by
  by_cases h : b ∈ S
  · rw [mn_in h] at e
    cases e
  · rw [mn_out h] at e
    exact e
theorem mn_nil {H : Hp} : mn H [] = H := funext fun b => mn_out (by simp)
theorem mn_sub {H : Hp} {S T : List Addr} (h : ∀ b, b ∈ S → b ∈ T) : Same (mn H T) (mn H S) := fun b o e => by
  by_cases h1 : b ∈ T
  · rw [mn_in h1] at e
    cases e
  · rw [mn_out h1] at e
    rw [mn_out fun z => h1 (h b z)]
    exact e
theorem mn_upd {H : Hp} {S : List Addr} {a : Addr} {o : HO} (h : a ∈ S) : mn (upd H a o) S = mn H S := funext fun b => by
  by_cases h1 : b ∈ S
  · rw [mn_in h1, mn_in h1]
  · rw [mn_out h1, mn_out h1, upd_ne (show b ≠ a from fun z => h1 (by rw [z]; exact h))]
theorem mn_new {H : Hp} {S : List Addr} {p : Addr} {o : HO} (h : H p = none) : Same (mn H S) (mn (upd H p o) S) := fun b u e => by
  by_cases h1 : b ∈ S
  · rw [mn_in h1] at e
    cases e
  · rw [mn_out h1] at e ⊢
    rw [upd_ne (ne_of_none e h)]
    exact e
theorem mn_but {H H' : Hp} {S : List Addr} {a : Addr} (h : a ∈ S) (s : SameBut a H H') : Same (mn H S) (mn H' S) := fun b u e => by
  by_cases h1 : b ∈ S
  · rw [mn_in h1] at e
    cases e
  · rw [mn_out h1] at e ⊢
    exact s b u (fun z => h1 (z ▸ h)) e
theorem mn_all {H H' : Hp} {S : List Addr} (s : Same H H') : Same (mn H S) (mn H' S) := fun b u e => by
  by_cases h1 : b ∈ S
  · rw [mn_in h1] at e
    cases e
  · rw [mn_out h1] at e ⊢
    exact s b u e
theorem mn_to {H H' : Hp} {S T : List Addr} (h : ∀ b, b ∈ S → b ∈ T) (s : Same (mn H S) (mn H' S)) : Same (mn H T) (mn H' T) := fun b u e => by
  by_cases h1 : b ∈ T
  · rw [mn_in h1] at e
    cases e
  · rw [mn_out h1] at e ⊢
    have z := s b u (by rw [mn_out fun z => h1 (h b z)]; exact e)
    rw [mn_out fun z => h1 (h b z)] at z
    exact z
/-- what is tracked beside S was there, or is new -/
theorem mn_at {H : Hp} {S : List Addr} {b : Addr} {o : HO} (h : b ∉ S) (e : H b = some o) : mn H S b = some o := by
  rw [mn_out h]
  exact e
theorem mn_keep {H H' : Hp} {S : List Addr} (s : Same (mn H S) (mn H' S)) {b : Addr} {o : HO} (h : b ∉ S) (e : H b = some o) : H' b = some o := mn_same _ _ (s _ _ (mn_at h e))
theorem mn_free {H H' : Hp} {S : List Addr} (s : Same (mn H S) (mn H' S)) {b : Addr} (h : b ∉ S) (e : H' b = none) : H b = none := by
  cases z : H b with
  | none => rfl
  | some o =>
    rw [mn_keep s h z] at e
    cases e

/-! ### data -/
section
variable {K : PySem.W.Frag} {H : Hp}
theorem dp_lst {v : V} {ds : List PyData} (h : Dp K H v (.list ds)) : ∃ a xs, v = .ref a ∧ SqL K H a xs ∧ DpAll K H xs ds := by
  cases h with
  | lst s a => exact ⟨_, _, rfl, s, a⟩
theorem dp_tup {v : V} {ds : List PyData} (h : Dp K H v (.tuple ds)) : ∃ a xs, v = .ref a ∧ SqT K H a xs ∧ DpAll K H xs ds := by
  cases h with
  | tup s a => exact ⟨_, _, rfl, s, a⟩
theorem dp_str {v : V} {s : Str} (h : Dp K H v (.str s)) : v = .str s := by cases h; rfl
theorem dp_int {v : V} {i : Int} (h : Dp K H v (.int i)) : v = .int i := by cases h; rfl
theorem da_len : ∀ {xs : List V} {ds : List PyData}, DpAll K H xs ds → xs.length = ds.length
  | _, _, .nil => rfl
  | _, _, .cons _ t => congrArg (· + 1) (da_len t)
theorem da_get : ∀ {xs : List V} {ds : List PyData}, DpAll K H xs ds → ∀ {i : Nat} {d : PyData}, ds[i]? = some d → ∃ v, xs[i]? = some v ∧ Dp K H v d
  | _, _, .nil, i, d, e => by cases e
  | _, _, .cons h t, 0, d, e => by
    cases e
    exact ⟨_, rfl, h⟩
  | _, _, .cons h t, i + 1, d, e => da_get t e
theorem da_at : ∀ {xs : List V} {ds : List PyData}, DpAll K H xs ds → ∀ {i : Nat} {v : V}, xs[i]? = some v → ∃ d, ds[i]? = some d ∧ Dp K H v d
  | _, _, .nil, i, d, e => by cases e
  | _, _, .cons h t, 0, d, e => by
    cases e
    exact ⟨_, rfl, h⟩
  | _, _, .cons h t, i + 1, d, e => da_at t e
theorem da_app : ∀ {xs ys : List V} {ds es : List PyData}, DpAll K H xs ds → DpAll K H ys es → DpAll K H (xs ++ ys) (ds ++ es)
  | _, _, _, _, .nil, h => h
  | _, _, _, _, .cons h t, k => .cons h (da_app t k)
theorem da_one {v : V} {d : PyData} (h : Dp K H v d) : DpAll K H [v] [d] := .cons h .nil
theorem da_strs : ∀ {xs : List V} {ns : List Str}, DpAll K H xs (ns.map PyData.str) → xs = ns.map V.str
  | [], [], _ => rfl
  | [], _ :: _, h => by cases h
  | _ :: _, [], h => by cases h
  | x :: xs, n :: ns, h => by
    cases h with
    | cons h t =>
      rw [dp_str h, da_strs t]
      rfl
theorem da_ints : ∀ {xs : List V} {ns : List Int}, DpAll K H xs (ns.map PyData.int) → xs = ns.map V.int
  | [], [], _ => rfl
  | [], _ :: _, h => by cases h
  | _ :: _, [], h => by cases h
  | x :: xs, n :: ns, h => by
    cases h with
    | cons h t =>
      rw [dp_int h, da_ints t]
      rfl
theorem da_take : ∀ {xs : List V} {ds : List PyData}, DpAll K H xs ds → ∀ n, DpAll K H (xs.take n) (ds.take n)
  | _, _, .nil, n => by
    rw [List.take_nil, List.take_nil]
    exact .nil
  | _, _, .cons h t, 0 => .nil
  | _, _, .cons h t, n + 1 => .cons h (da_take t n)
/-- the strs of a tuple of texts -/
theorem dp_names {v : V} {ns : List Str} (h : Dp K H v (.tuple (ns.map PyData.str))) : ∃ a, v = .ref a ∧ SqT K H a (ns.map V.str) := by
  obtain ⟨a, xs, rfl, s, t⟩ := dp_tup h
  rw [da_strs t] at s
  exact ⟨a, rfl, s⟩
theorem dp_namesL {v : V} {ns : List Str} (h : Dp K H v (.list (ns.map PyData.str))) : ∃ a, v = .ref a ∧ SqL K H a (ns.map V.str) := by
  obtain ⟨a, xs, rfl, s, t⟩ := dp_lst h
  rw [da_strs t] at s
  exact ⟨a, rfl, s⟩
theorem names_dp {a : Addr} {ns : List Str} (h : SqT K H a (ns.map V.str)) : Dp K H (.ref a) (.tuple (ns.map PyData.str)) := .tup h (dp_strs ns)
theorem namesL_dp {a : Addr} {ns : List Str} (h : SqL K H a (ns.map V.str)) : Dp K H (.ref a) (.list (ns.map PyData.str)) := .lst h (dp_strs ns)
end

/-! ### what may be compared: no dicts, not too deep -/
def Lay (n : Nat) (d : PyData) : Prop := d.canLay0 = true ∧ d.depth ≤ n
def Lays (n : Nat) (ds : List PyData) : Prop := PyData.canLayAll0 ds = true ∧ PyData.depthAll ds ≤ n
theorem lays_nil {n : Nat} : Lays n [] := ⟨rfl, Nat.zero_le _⟩
theorem lays_cons {n : Nat} {d : PyData} {ds : List PyData} (h : Lay n d) (t : Lays n ds) : Lays n (d :: ds) := by
  constructor
  · show (d.canLay0 && PyData.canLayAll0 ds) = true
    rw [h.1, t.1]
    rfl
  · show max d.depth (PyData.depthAll ds) ≤ n
    exact Nat.max_le.mpr ⟨h.2, t.2⟩
theorem lays_of {n : Nat} : ∀ {ds : List PyData}, (∀ d ∈ ds, Lay n d) → Lays n ds
  | [], _ => lays_nil
  | d :: ds, h => lays_cons (h d List.mem_cons_self) (lays_of fun x hx => h x (List.mem_cons_of_mem _ hx))
theorem lay_tuple {n : Nat} {ds : List PyData} (h : Lays n ds) : Lay (n + 1) (.tuple ds) := ⟨h.1, Nat.succ_le_succ h.2⟩
theorem lay_list {n : Nat} {ds : List PyData} (h : Lays n ds) : Lay (n + 1) (.list ds) := ⟨h.1, Nat.succ_le_succ h.2⟩
theorem lay_int {n : Nat} {i : Int} : Lay n (.int i) := ⟨rfl, Nat.zero_le _⟩
theorem lay_str {n : Nat} {s : Str} (h : PyData.strOk s = true) : Lay n (.str s) := ⟨h, Nat.zero_le _⟩
theorem lay_up {m n : Nat} {d : PyData} (h : Lay m d) (k : m ≤ n) : Lay n d := ⟨h.1, Nat.le_trans h.2 k⟩
theorem lays_up {m n : Nat} {ds : List PyData} (h : Lays m ds) (k : m ≤ n) : Lays n ds := ⟨h.1, Nat.le_trans h.2 k⟩
theorem lays_mem {n : Nat} : ∀ {ds : List PyData}, Lays n ds → ∀ d ∈ ds, Lay n d
  | d :: ds, h, x, hx => by
    have h1 : (d.canLay0 && PyData.canLayAll0 ds) = true := h.1
    have h2 : max d.depth (PyData.depthAll ds) ≤ n := h.2
    rw [Bool.and_eq_true] at h1
    rw [Nat.max_le] at h2
    rcases List.mem_cons.mp hx with e | e
    · rw [e]
      exact ⟨h1.1, h2.1⟩
    · exact lays_mem ⟨h1.2, h2.2⟩ x e
theorem lays_strs {n : Nat} {ns : List Str} (h : ∀ s ∈ ns, PyData.strOk s = true) : Lays n (ns.map PyData.str) := lays_of fun d hd => by
  obtain ⟨s, hs, rfl⟩ := List.mem_map.mp hd
  exact lay_str (h s hs)
theorem lays_ints {n : Nat} {ns : List Int} : Lays n (ns.map PyData.int) := lays_of fun d hd => by
  obtain ⟨s, _, rfl⟩ := List.mem_map.mp hd
  exact lay_int
theorem shape {n : Nat} {d : PyData} (h : Lay n d) (k : n ≤ 64) : SeqAt.shaped d = true := by
  unfold SeqAt.shaped
  rw [Bool.and_eq_true]
  exact ⟨h.1, decide_eq_true (Nat.le_trans h.2 k)⟩
theorem eq_refl {n : Nat} {d : PyData} (h : Lay n d) : PyData.eqv d d = true := SeqAt.eqv_refl d h.1

/-! ### strict order of lists of texts, and equal lists -/
def Asc (l : List Str) : Prop := l.Pairwise fun x y => x.cps.toList < y.cps.toList
theorem asc_of : ∀ {l : List Str}, sortedS l = true → l.Nodup → Asc l := by
  intro l h nd
  have key : ∀ (d i : Nat) (x y : Str), l[i]? = some x → l[i + (d + 1)]? = some y → x.cps.toList < y.cps.toList := by
    intro d
    induction d with
    | zero => exact fun i x y h1 h2 => sorted_at h nd h1 h2
    | succ d ih =>
      intro i x y h1 h2
      have hl : i + (d + 1) < l.length := by
        have := (List.getElem?_eq_some_iff.mp h2).1
        omega
      have h3 : l[i + (d + 1)]? = some l[i + (d + 1)] := List.getElem?_eq_getElem hl
      exact List.lt_trans (ih i x _ h1 h3) (sorted_at h nd h3 h2)
  refine List.pairwise_iff_getElem.mpr fun i j hi hj hij => ?_
  exact key (j - i - 1) i _ _ (List.getElem?_eq_getElem hi) (by rw [show i + (j - i - 1 + 1) = j by omega]; exact List.getElem?_eq_getElem hj)
theorem asc_nodup {l : List Str} (h : Asc l) : l.Nodup := List.Pairwise.imp (fun {x y} hxy e => by
  rw [e] at hxy
  exact List.lt_irrefl _ hxy) h
theorem asc_eq : ∀ {l m : List Str}, Asc l → Asc m → (∀ x, x ∈ l ↔ x ∈ m) → l = m
  | [], [], _, _, _ => rfl
  | [], y :: m, _, _, h => absurd ((h y).mpr List.mem_cons_self) (by simp)
  | x :: l, [], _, _, h => absurd ((h x).mp List.mem_cons_self) (by simp)
  | x :: l, y :: m, h1, h2, h => by
    obtain ⟨a1, a2⟩ := List.pairwise_cons.mp h1
    obtain ⟨b1, b2⟩ := List.pairwise_cons.mp h2
    have e : x = y := by
      rcases List.mem_cons.mp ((h x).mp List.mem_cons_self) with e | e
      · exact e
      · rcases List.mem_cons.mp ((h y).mpr List.mem_cons_self) with e' | e'
        · exact e'.symm
        · exact absurd (List.lt_trans (a1 y e') (b1 x e)) (List.lt_irrefl _)
    subst e
    have nl : x ∉ l := fun z => List.lt_irrefl _ (a1 x z)
    have nm : x ∉ m := fun z => List.lt_irrefl _ (b1 x z)
    rw [asc_eq a2 b2 fun z => ⟨fun hz => (List.mem_cons.mp ((h z).mp (List.mem_cons_of_mem _ hz))).resolve_left fun e => nl (e ▸ hz), fun hz => (List.mem_cons.mp ((h z).mpr (List.mem_cons_of_mem _ hz))).resolve_left fun e => nm (e ▸ hz)⟩]

/-! ### sorted(xs), xs tuples of ints of one length: some order -/
def rSortRows (K : PySem.W.Frag) : List V → Hp → VK → Prop := fun vs H Q => ∃ (a : Addr) (xs : List V) (d : Nat) (B : Int), vs = [V.ref a] ∧ SqL K H a xs ∧ xs.length < 64 ∧ (∀ x ∈ xs, ∃ ns, TupI K H x ns ∧ ns.length = d ∧ TS.Bd B ns) ∧ (d = 0 → xs.length ≤ 1) ∧
  ∀ (ys : List V) (p : Addr), ys.Perm xs → H p = none → Q (.ref p) (upd H p (.lst ys))
theorem cr_sortRows {X : Cx} : CallR X (.builtin "sorted") (rSortRows X.K) := by
  intro pins s σ H vs us Q I r h
  obtain ⟨a, xs, d, B, rfl, hs, h64, hx, h1, q⟩ := h
  by_cases hd : 1 ≤ d
  · exact cr_sortT hd pins s σ H _ us Q I r ⟨a, xs, rfl, hs, h64, hx, fun ys p pm _ n => q ys p pm n⟩
  · have hl1 : xs.length ≤ 1 := h1 (by omega)
    obtain ⟨its, rv, hl, hz⟩ := I.list hs
    have hlen := rv.length
    rw [Vals.ref1 r]
    refine Srt.sorted_any hl.isList (by rw [← hlen]; exact hz) (fun h2 => absurd h2 (by omega)) fun out hp => ?_
    have e : out = its := by
      match its, hlen, hp with
      | [], _, hp => exact hp.eq_nil
      | [v], _, hp => exact List.perm_singleton.mp hp
      | _ :: _ :: _, hlen, _ =>
        simp only [List.length_cons] at hlen
        omega
    subst e
    obtain ⟨ep, he'⟩ := PyProof.Rows.sortedAll_at s.heap out out.toArray
    exact ⟨.ref _, upd H (s.heap.objs.size + 1) (.lst xs), I.laid (t' := s.toks) (fun _ _ => PyProof.Rows.sortedAll_old) (Nat.le_succ _) ⟨hz, out, ep, rv, by simpa using he'⟩, rfl, q xs _ (List.Perm.refl _) (I.hok.fresh (Nat.le_succ _))⟩

/-! ### the room of a call for a comparison of data -/
theorem room {k : Nat} {A : Around} (r : Room k A) : A.units + 65 < cLine := by
  have := r.un
  omega

/-! ### a list or a tuple of data -/
theorem dp_seq {K : PySem.W.Frag} {H : Hp} {v : V} {ds : List PyData} (h : Dp K H v (.list ds) ∨ Dp K H v (.tuple ds)) : ∃ a xs, v = .ref a ∧ DpAll K H xs ds ∧ (SqL K H a xs ∨ SqT K H a xs) := by
  rcases h with h | h
  · obtain ⟨a, xs, rfl, s, t⟩ := dp_lst h
    exact ⟨a, xs, rfl, t, .inl s⟩
  · obtain ⟨a, xs, rfl, s, t⟩ := dp_tup h
    exact ⟨a, xs, rfl, t, .inr s⟩

/-! ### name = {k: v for ..} -/
section
variable {X : Cx}
theorem ps_setDc {i : Nat} {y : Str} {py : Pos} {kx vx tg iter : Expr} {ifs : List Expr} {scope : Scope} {own : List (Str × Nat)} {pos spos : Pos} {wi : TI} {g : TG} {tt : TT} {tk tv : TE} (hc : X.calm = true) (hN : X.N.Nodup) (hy : X.N[i]? = some y) (hyl : X.env.scope.names.lookup y = some .local)
    (hsw : swapsWith (.DictComp kx vx [⟨tg, iter, ifs, 0⟩] scope pos) (some (.Name y py)) spos.line X.env = pure true) (hi : PI X tg iter wi) (ok : BlkOk X.N X.env.scope scope own)
    (hg : ∀ (s : Shared) (H : Hp) (C : Addr) (cl : List (Str × Addr)) (fp : List Addr), PG (X.blk s H scope (compEnvC scope cl C X.env) fp) tg g) (ht : ∀ (s : Shared) (H : Hp) (C : Addr) (cl : List (Str × Addr)) (fp : List Addr), PTs (X.blk s H scope (compEnvC scope cl C X.env) fp) ifs tt)
    (hk : ∀ (s : Shared) (H : Hp) (C : Addr) (cl : List (Str × Addr)) (fp : List Addr), PE (X.blk s H scope (compEnvC scope cl C X.env) fp) kx tk)
    (he : ∀ (s : Shared) (H : Hp) (C : Addr) (cl : List (Str × Addr)) (fp : List Addr), PE (X.blk s H scope (compEnvC scope cl C X.env) fp) vx tv) (hs : ∀ x, foldedSetIterable iter X.env x = pure x := by intro _; rfl) :
    PS X (.Assign [.Name y py] (.DictComp kx vx [⟨tg, iter, ifs, 0⟩] scope pos) spos) (tAsg (tDc wi g tt tk tv (own.map (·.2))) (gName i)) := by
  refine ⟨fun pins s σ H D I h => ?_⟩
  rw [exec_Assign_Name_used _ _ _ _ hsw]
  refine wpAny_bind (wpAny_standAt (wpAny_bind ?_))
  show wpAny _ X.A (do let _ ← comprehension (.DictComp kx vx [⟨tg, iter, ifs, 0⟩] scope pos) scope X.env _ newDict false (eval iter X.env) (some (assign (.Name y py) X.env))) _ _ s
  have h : tDc wi g tt tk tv (own.map (·.2)) σ H (fun x H1 => gName i x σ H1 D.nx) := h
  refine wpAny_bind (thn (dc_core (Qf := fun _ s' => SP X pins D .next s') hc hN I hi ok hg ht hk he hs h fun L C s' m H' I' q hn f => ?_) fun _ s' hq => wpAny_pure (wpAny_pure hq))
  show wpAny _ _ (assign (.Name y py) X.env (.ref L)) _ _ _
  refine wpAny_assign_Name (store_ok2 (v := V.ref L) I' hN hy (.inl hyl) rfl (fun s2 I2 ⟨a, sb, ha⟩ => ?_) (.inr hyl))
  obtain ⟨f0, f1, f2, f3, f4, f5⟩ := f
  have haC : C ≠ a := by
    rcases ha with z | z
    · rw [z]; exact f1
    · exact fun e => f4 y a z e.symm
  refine ⟨m, hn.sameBut sb haC, fun h3 sb3 => ?_⟩
  exact ⟨_, H', I2.turned (t' := s2.toks) (fun b o hb e => (sb3.2 b hb).trans e) f0 f1 f3 f4 f5, q⟩
theorem sw_trueD {kx vx : Expr} {gs : List Comprehension} {scope : Scope} {pos py : Pos} {y : Str} {l : Nat} {env : Env} (hk : env.scope.kind = .function) (hy : env.scope.names.lookup y = some .local) (hl : (py.line == pos.line) = true)
    (ha : (scope.names.any fun (n, k) => n == y && (k == .local || k == .cell)) = false) : swapsWith (.DictComp kx vx gs scope pos) (some (.Name y py)) l env = pure true := by
  have ky : env.kindOf y = some .local := hy
  have hb : env.blockKind = .function := by unfold Env.blockKind; rw [hk]; rfl
  unfold swapsWith
  simp only [hb, ky, ha, Expr.pos, hl]
  rfl
end
end Dx
/-! An own exception's __init__ that begins with super().__init__(e), over ValueError. -/
namespace Sup
open PySem PySem.Spec PyProof.Rows L2 NdefX
abbrev vei : String := "ValueError.__init__"
def mwO (u a : Addr) : HO := .ext fun h => h.get? u = some (PySem.W.kxs_mw vei a)
theorem mwO_ok {P : Program} {w : World} {H : Hp} {h : Heap} {u a : Addr} (e : h.get? u = some (PySem.W.kxs_mw vei a)) : ObjOk P w H h u (mwO u a) := ⟨e, ⟨_, e⟩, fun h1 h2 z k => k _ z⟩
theorem mwO_at {P : Program} {w : World} {H : Hp} {h : Heap} {u a : Addr} (hok : HOk P w H h) (e : H u = some (mwO u a)) : h.get? u = some (PySem.W.kxs_mw vei a) := by
  have x : ObjOk P w H h u (.ext fun h => h.get? u = some (PySem.W.kxs_mw vei a)) := hok u _ e
  exact x.1
/-- what the written part says of a def that says super() -/
structure SupF (P : Program) (K : PySem.W.Frag) (mg : Str → Option Value) (env : Env) (sn : Str) (D : Addr) : Prop where
  ks : env.kindOf "super" = some .globalImplicit
  kc : env.kindOf "__class__" = some .free
  fn : ∃ (f : Addr) (oc : Value) (od : Option Addr) (fd : FuncData) (osl : Array (Option Value)) (ar : Arg), env.func = some f ∧ K.lookup f = some ⟨oc, od, .func fd, osl⟩ ∧ (fd.params.posonlyargs ++ fd.params.args).head? = some ar ∧ ar.arg = sn
  co : ∃ (cda : Addr) (ccl : Value) (cdd : Option Addr) (vs : Array Value) (ccs : Array (Option Value)) (file : Str) (tf : Tok), env.code = .ref cda ∧ K.lookup cda = some ⟨ccl, cdd, .fields vs, ccs⟩ ∧ vs[2]? = some (.str file tf) ∧ ((P.main.file : Str) == file) = true
  top : (P.main.scope.names.lookup ("super" : Str)).isSome = false
  ce : ∃ (cc : Addr) (cl : Value) (cld : Option Addr) (csl : Array (Option Value)), env.cells.lookup ("__class__" : Str) = some cc ∧ K.lookup cc = some ⟨cl, cld, .cell (some (.ref D)), csl⟩
  mg : mg "super" = none
  any : PySem.W.nsIn K cStatics "thirdparty.any" = some none
  it : interactive env = false
  ka : env.kindOf sn = some .local
/-- .. and of the class of the object -/
structure SupC (K : PySem.W.Frag) (C D : Addr) : Prop where
  cls : ∃ cd, PySem.W.clsIn K D = some cd
  sub : PySem.W.mroIn K C (.ref D) = some true
  sup : PySem.W.ks_superIn K C D "__init__" = some (some (.builtin vei))
  ve : PySem.W.subIn K (.ref C) (.type "ValueError") = some true
  exc : OexC K C
section
variable {X : Cx} {pins : List (Addr × Obj)} {σ : List (Option V)} {H : Hp} {s : Shared} {self : Str} {D a C : Addr} {body : List Stmt} {p0 p1 p2 pos pos' : Pos} {e : Expr} {te : TE}
theorem ld_super {E : Value → Shared → Prop} {Q : Value → Shared → Prop} (I : Inv X pins σ H s) (S : SupF X.prog X.K X.mg X.env self D) (h : Q (.type "super") s) : wpAny (model X.prog X.w) X.A (loadName X.env "super") Q E s := by
  obtain ⟨mb, h1, h2⟩ := I.mod.blt
  exact PySem.W.ks_loadName_global I.ok.kind S.ks (Calls.loadGlobal_builtin (by rw [I.ok.glob]; exact I.mod.glob.keeps I.bk) S.mg (by rw [I.ok.blt]; exact h1.keeps I.bk) ((h2 _ (by decide)).trans (by rfl)) h)
theorem self_at (I : Inv X pins σ H s) {u : V} (h1 : X.N[0]? = some self) (h2 : σ[0]? = some (some u)) (hk : X.env.kindOf self = some .local) : ∃ m v, s.heap.Ns X.env.locals m ∧ m self = some v ∧ RelV u v := by
  obtain ⟨m, hn, hl⟩ := I.loc
  obtain ⟨v, r, k⟩ := hl 0 self u h1 h2 (.inl hk)
  rcases k with ⟨_, k⟩ | ⟨k, _⟩
  · exact ⟨m, v, hn, k, r⟩
  · rcases k with k | k <;> · rw [hk] at k; cases k
theorem exo_inst {C a : Addr} (T : OexC X.K C) (I : Inv X pins σ H s) (e : H a = some (exo a C none)) : ∃ t1 : Addr, PySem.W.InstAt s.heap a { cls := .ref C, dict := none, data := .fields #[.ref t1, .none, .none, .none, .bool false, .none] } C none := by
  obtain ⟨t1, ho⟩ := exo_at I.hok e
  exact ⟨t1, ho, rfl, rfl, trivial⟩
/-- the wrapper called -/
theorem call_mw {u : Addr} {us : List Value} {Q : Value → Shared → Prop} {E : Value → Shared → Prop} {A : Around} (T : OexC X.K C) (I : Inv X pins σ H s) (eu : H u = some (mwO u a)) (ea : H a = some (exo a C none)) (hl : us.length ≤ sizeLine) (h : ∀ s', Inv X pins σ H s' → Q .none s') :
    wpAny (model X.prog X.w) A (call (.ref u) us) Q E s := by
  obtain ⟨nm, q, N, bs, bm, sn, sub, ab, col, dd, k0, k1, k2, k3, k5, hC, hbm⟩ := T.cls
  obtain ⟨t1, ho⟩ := exo_at I.hok ea
  have hu := mwO_at I.hok eu
  have hCh := I.kIn _ _ hC
  have FB := F.excBase_ValueError
  obtain ⟨hp, g, d, t, os⟩ := s
  refine wpAny_call (codeAny_of_tree ?_)
  show wpAny _ A.in1 (callAny (.ref u) ⟨us, []⟩) _ _ _
  simp only [callAny]
  refine wpAny_bind (wpAny_load hu ?_)
  simp only [PySem.W.kxs_mw, show (Value.type "method-wrapper" == Value.type "method" || Value.type "method-wrapper" == Value.type "builtin_function_or_method" || Value.type "method-wrapper" == Value.type "method-wrapper") = true by decide, if_true]
  refine PySem.W.KFB.if_so (by decide) ?_
  refine wpAny_bind (PySem.W.check_bound_init FB.toExcCallFacts hCh ho rfl ?_)
  refine wpAny_bind (wpAny_pure (wpAny_pure ?_))
  refine ⟨plainId_quiet FB.init.plain _, codeAny_builtin FB.initEntry ?_⟩
  refine PySem.W.exc_init_tree (cls := .ref C) (t0 := t1) (dv := none) (c2 := .none) (c3 := .none) (b4 := .bool false) ho hl fun h' k hx _ => ?_
  have J := I.write (t' := t) (x := a) (e := a) (o := exo a C none) (by rw [ea]; exact True.intro) (.inl rfl) k ⟨_, hx⟩ (exo_ok hx)
  have eu2 : upd H a (exo a C none) = H := by
    funext b
    by_cases hb : b = a
    · rw [hb, upd_same, ea]
    · rw [upd_ne hb]
  rw [eu2] at J
  exact h _ J
theorem sup_stmt {es : List Expr} {pl : Sem Bool} {ta : TA} {G : Hp → Prop} {Q : Flow → Shared → Prop} (I : Inv X pins σ H s) (S : SupF X.prog X.K X.mg X.env self D) (T : SupC X.K C D) (hN : X.N[0]? = some self) (h0 : σ[0]? = some (some (.ref a))) (ea : H a = some (exo a C none)) (ha : PA X (e :: es) ta)
    (h : ∀ u, H u = none → ta σ (upd H u (mwO u a)) fun vs H2 => vs.length ≤ 1000 ∧ H2 u = some (mwO u a) ∧ H2 a = some (exo a C none) ∧ G H2) (hq : ∀ H2 s', Inv X pins σ H2 s' → G H2 → Q .next s')
    (hev : eval (.Call (.Attribute (.Call (.Name "super" p0) [] [] p1) "__init__" p2) (e :: es) [] pos) X.env = (do
      let ov ← attributeBase (.Call (.Name "super" p0) [] [] p1) "__init__" X.env (eval (.Call (.Name "super" p0) [] [] p1) X.env)
      standAt p2.atName
      let (f, first) ← holding [ov] (getMethod ov "__init__" pl)
      callWith pos f first (backTo pos (starEach (e :: es) X.env)) []) := by rfl)
    (he : starEach (e :: es) X.env = (false, eval e X.env) :: starEach es X.env := by rfl) (hpl : (backTo pos (starEach es X.env)).any (·.1) = false := by rfl) :
    _root_.PySem.wpAt (model X.prog X.w) X.A (.func body X.env) (exec (.Expr (.Call (.Attribute (.Call (.Name "super" p0) [] [] p1) "__init__" p2) (e :: es) [] pos) pos') X.env) Q X.xe s := by
  refine ks_wpAt_Expr_any ?_ S.it
  refine ks_wpAt_MethodCall ?_ hev
  obtain ⟨f, oc, od, fd, osl, ar, hfu, lf, hp, har⟩ := S.fn
  obtain ⟨cda, ccl, cdd, vs, ccs, file, tf, hco, lc, hvs, hfile⟩ := S.co
  obtain ⟨cc, cl, cld, csl, hcl, lcc⟩ := S.ce
  obtain ⟨m, v, hn, hv, rv⟩ := self_at I hN h0 S.ka
  obtain rfl : v = Value.ref a := rv
  obtain ⟨t1, inst⟩ := exo_inst T.exc I ea
  obtain ⟨cdD, hD⟩ := T.cls
  have XK := I.kIn
  obtain ⟨oD, hD1, hD2⟩ : ∃ oD, s.heap.get? D = some oD ∧ oD.data = .cls cdD := by
    unfold PySem.W.clsIn at hD
    split at hD
    · rename_i c d cd' sl ho
      cases hD
      exact ⟨_, XK _ _ ho, rfl⟩
    · cases hD
  refine ks_wpAt_super_base S.ks S.kc (by decide) hfu (XK _ _ lf) rfl hp hco (XK _ _ lc) rfl hvs hfile S.top ?_
  refine ld_super I S ⟨rfl, ?_⟩
  refine wpAny_loadName_free I.ok.kind S.kc hcl ⟨_, XK _ _ lcc, rfl⟩ ?_
  refine wpAny_loadName_local I.ok.kind (har ▸ S.ka) hn (har ▸ hv) ?_
  refine ks_wpAny_isType_cls hD1 hD2 ⟨rfl, ?_⟩
  obtain ⟨hp0, g, d, t, os⟩ := s
  refine ks_wpAny_call_super hD1 hD2 inst.at_ rfl (fun c e => by cases e) (PySem.W.looks_mroIn XK T.sub) fun h' eso k => ?_
  have I2 : Inv X pins σ H ⟨h', g, d, t, os⟩ := I.kept (t' := t) k
  have XK2 := I2.kIn
  have sup := T.sup
  unfold PySem.W.ks_superIn at sup
  cases hc : PySem.W.clsIn X.K C with
  | none =>
    rw [hc] at sup
    cases sup
  | some cd =>
    rw [hc] at sup
    obtain ⟨t2, inst2⟩ := exo_inst T.exc I2 ea
    refine PySem.W.kxs_getMethod PySem.W.kxs_ValueError eso (PySem.W.looks_opaque XK2 S.any) (l₀ := cd.mro) ?_ rfl XK2 sup (inst2.type.andThen (PySem.W.looks_subIn XK2 T.ve)) (PySem.W.ks_ne XK2 inst2 hc) (by decide) ?_
    · exact fun A Q E s k q => wpAny_bind ((PySem.W.looks_clsIn XK2 hc) A _ E s k (wpAny_pure q))
    · have hnu : H h'.objs.size = none := I2.hok.fresh (Nat.le_refl _)
      have gu : (h'.push (PySem.W.kxs_mw vei a)).get? h'.objs.size = some (PySem.W.kxs_mw vei a) := Heap.get?_push_at rfl rfl
      have I3 : Inv X pins σ (upd H h'.objs.size (mwO h'.objs.size a)) ⟨h'.push (PySem.W.kxs_mw vei a), g, d, t + 1, os⟩ :=
        I2.laid (t' := t + 1) (fun b o e => Heap.get?_push_of_some _ e) (Nat.le_refl _) (mwO_ok gu)
      show wpAny _ _ (callWith pos (.ref h'.objs.size) [] (backTo pos (starEach (e :: es) X.env)) []) _ _ _
      have run := ha.run pos pins _ σ _ _ I3 (h _ hnu)
      rw [he] at run ⊢
      refine PySem.W.kxs_callWith (i := vei) (x := a) (by show (false || (backTo pos (starEach es X.env)).any (·.1)) = false; rw [hpl]; rfl) ?_
      refine Calls.evalArgs_plain (thn run fun us s1 ⟨vs, H1, I1, r1, hz, eu, ea1, hG⟩ => ⟨mwO_at I1.hok eu, ?_⟩)
      exact call_mw T.exc I1 eu ea1 (by show us.length ≤ _; rw [← Paired.length r1, sizeLine_eq]; omega) fun s' J => hq H1 s' J hG
end
section
variable {CX : CXT} {P : Program} {w : World} {K : PySem.W.Frag} {mg : Str → Option Value} {base : Heap} {k : Nat} {F : NF} {f cc D : Addr} {kV doc pm ct oc : Value} {an od : Option Addr} {osl : Array (Option Value)} {N ps : List Str} {sp : Sp} {self : Str} {e : Expr} {es : List Expr} {p0 p1 p2 pos pos' : Pos} {rest : List Stmt} {pl : Sem Bool}
theorem fn_sup (lk : K.lookup f = some ⟨oc, od, .func (PySem.W.fnX F.name F.qual F.params F.body F.scope F.cl .none kV doc pm an (.ref F.c) ct), osl⟩) (hcd : PySem.W.codeIn K (.ref F.c) F.qual = true) (hcl : F.cl = [(("__class__" : Str), cc)])
    (hcc : ∃ cl cld csl, K.lookup cc = some ⟨cl, cld, .cell (some (.ref D)), csl⟩) (S : NScope N ps ["__class__"] F.scope) (hF : ∀ L, SupF P K mg (envF F f L) self D) (hN : N[0]? = some self)
    (hbd : F.body = .Expr (.Call (.Attribute (.Call (.Name "super" p0) [] [] p1) "__init__" p2) (e :: es) [] pos) pos' :: rest)
    (len : ∀ vs H Q E, sp vs H Q E → vs.length = ps.length)
    (hbody : ∀ (A : Around) (outer : List Env) (s : Shared) (H : Hp) (vs : List V) (Q : VK) (E : XK), Room k (A.deeper (envF F f s.heap.objs.size)) → sp vs H Q E →
      ∃ (a C : Addr) (ta : TA) (t : TS), SupC K C D ∧ (startF N vs [none])[0]? = some (some (.ref a)) ∧ H a = some (exo a C none) ∧ PA (ncx CX P w K mg base N F f A outer s H E) (e :: es) ta ∧ PSs (ncx CX P w K mg base N F f A outer s H E) rest t ∧
        ∀ u, H u = none → ta (startF N vs [none]) (upd H u (mwO u a)) fun vs' H2 => vs'.length ≤ 1000 ∧ H2 u = some (mwO u a) ∧ H2 a = some (exo a C none) ∧ t { nx := fun _ H' => Q .non H', rt := Q } (startF N vs [none]) H2)
    (hev : ∀ L, eval (.Call (.Attribute (.Call (.Name "super" p0) [] [] p1) "__init__" p2) (e :: es) [] pos) (envF F f L) = (do
      let ov ← attributeBase (.Call (.Name "super" p0) [] [] p1) "__init__" (envF F f L) (eval (.Call (.Name "super" p0) [] [] p1) (envF F f L))
      standAt p2.atName
      let (g, first) ← holding [ov] (getMethod ov "__init__" pl)
      callWith pos g first (backTo pos (starEach (e :: es) (envF F f L))) []) := by intro L; rfl)
    (he : ∀ L, starEach (e :: es) (envF F f L) = (false, eval e (envF F f L)) :: starEach es (envF F f L) := by intro L; rfl) (hpl : ∀ L, (backTo pos (starEach es (envF F f L))).any (·.1) = false := by intro L; rfl) :
    FnOk P w K mg base CX (k + 1) f (PySem.W.fnX F.name F.qual F.params F.body F.scope F.cl .none kV doc pm an (.ref F.c) ct) ps sp := by
  refine ⟨len, fun A outer s H args us vs Q E hr e0 hb r hsp => ?_⟩
  have hl := len _ _ _ _ hsp
  have KX : K.In s.heap := e0.mod.kin.keeps fun b o e => (e0.bs b o e).1
  have lim : s.heap.NoLimit := e0.mod.nolimit.keeps fun b o e => (e0.bs b o e).1
  obtain ⟨cl, cld, csl, hcc⟩ := hcc
  have C : CellsAt F.cl ["__class__"] [none] s.heap H := by
    have one : ∀ {y : Str} {c : Addr}, F.cl.lookup y = some c → y = "__class__" ∧ c = cc := fun {y c} e => by
      rw [hcl] at e
      by_cases h : y = ("__class__" : Str)
      · subst h
        have e2 : some cc = some c := e
        exact ⟨rfl, (Option.some.inj e2).symm⟩
      · have h2 : (y == ("__class__" : Str)) = false := by simpa using h
        rw [List.lookup_cons, h2] at e
        cases e
    refine ⟨rfl, fun y c e => ?_, fun x y c e1 e2 => (one e1).1.trans (one e2).1.symm, fun i y hi => ?_⟩
    · rw [(one e).2]
      exact ⟨(e0.bs _ _ (e0.mod.kin _ _ hcc)).2, _, ⟨_, KX _ _ hcc, rfl⟩⟩
    · cases i with
      | zero =>
        have e : ("__class__" : Str) = y := Option.some.inj hi
        refine ⟨cc, by rw [hcl, ← e]; rfl, fun v hv => ?_⟩
        cases hv
      | succ i => cases hi
  refine ks_codeAny_call_defAt hr.depth (KX _ _ lk) rfl lim (PySem.W.codeRec_of KX hcd) rfl hb S.nocell (fun ⟨n, v⟩ hy => S.par n (List.of_mem_zip hy).1) (fun h₁ hns kp => ?_) S.co S.gen S.kind
  show _root_.PySem.wpAt (model P w) (A.deeper (envF F f s.heap.objs.size)) (.func F.body (envF F f s.heap.objs.size)) (execs F.body (envF F f s.heap.objs.size)) _ _ _
  obtain ⟨a, Ca, ta, t, hC, h0, ea, pa, ps', hq⟩ := hbody A outer s H vs Q E (hr.deeper _) hsp
  have I : Inv (ncx CX P w K mg base N F f A outer s H E) [] (startF N vs [none]) H { s with heap := h₁, toks := s.toks + (ps.zip us).length } := inv_startN S hr.hd e0 hl r C hns kp
  have fin : ∀ {s' : Shared} {σ' : L2.St} {H' : Hp} {v : V} {u : Value}, Inv (ncx CX P w K mg base N F f A outer s H E) [] σ' H' s' → L2.RelV v u → Q v H' → CE outer P w H s Q u s' :=
    fun {s' σ' H' v u} J rv q => ⟨v, H', J.os, J.bare, J.base, J.hok, rv, q⟩
  have main : ∀ (body : List Stmt), _root_.PySem.wpAt (model P w) (A.deeper (envF F f s.heap.objs.size)) (.func body (envF F f s.heap.objs.size)) (execs (.Expr (.Call (.Attribute (.Call (.Name "super" p0) [] [] p1) "__init__" p2) (e :: es) [] pos) pos' :: rest) (envF F f s.heap.objs.size))
      (fun fl s' => CR CX outer P w H s Q E (.ok (.ret (match fl with | .ret v => v | _ => .none))) s') (ncx CX P w K mg base N F f A outer s H E).xe { s with heap := h₁, toks := s.toks + (ps.zip us).length } := by
    intro body
    refine ks_wpAt_execs_cons ?_
    refine sup_stmt (X := ncx CX P w K mg base N F f A outer s H E) (body := body) (G := fun H2 => t { nx := fun _ H' => Q .non H', rt := Q } (startF N vs [none]) H2) I (hF _) hC hN h0 ea pa hq (fun H2 s' J hG => ?_) (hev _) (he _) (hpl _)
    refine wpAt_of_wpAny ?_
    refine wpAny_mono (ps'.run [] s' (startF N vs [none]) H2 _ J hG) (fun fl s' hs => ?_) fun e s' hs => hs
    cases fl with
    | ret u =>
      obtain ⟨v, σ', H', J, rv, q⟩ := hs
      exact fin J rv q
    | next =>
      obtain ⟨σ', H', J, q⟩ := hs
      exact fin (v := V.non) (u := Value.none) J rfl q
    | brk =>
      obtain ⟨_, _, _, q⟩ := hs
      exact False.elim q
    | cont =>
      obtain ⟨_, _, _, q⟩ := hs
      exact False.elim q
  have m2 := main F.body
  rw [← hbd] at m2
  exact m2
end
end Sup
/-! Own errors with one field, whose __init__ says super().__init__(f'..'). -/
namespace Er
open PySem PySem.Spec PyProof.Rows L2 Bx TL Dx Sup NdefX
/-- __init__(self, y): the error at a gets a dict with f = y -/
def spErr (ok : V → Prop) (C : Addr) (f : Str) : Sp := fun vs H Q _ => ∃ (a : Addr) (v : V), vs = [.ref a, v] ∧ ok v ∧ H a = some (exo a C none) ∧
  ∀ (d : Addr) (H' : Hp), (∀ b o, b ≠ a → H b = some o → H' b = some o) → H d = none → d ≠ a → H' a = some (exo a C (some d)) → H' d = some (exd d [(f, v)]) → Q .non H'
/-- the class at C, named x: an own error over ValueError with one field -/
structure Err (P : Program) (w : World) (K : PySem.W.Frag) (mg : Str → Option Value) (base : Heap) (x : Str) (C : Addr) (f y : Str) (ok : V → Prop) (k : Nat) : Prop where
  init : ∃ (fI : Addr) (fd : FuncData), PySem.W.findIn K (.ref C) "__init__" = some (some (.ref fI)) ∧ PySem.W.typeIn K (.ref fI) = some (.type "function") ∧ FnOk P w K mg base CX0 k fI fd ["self", y] (spErr ok C f) ∧ Binds K fd ["self", y] []
  exc : OexC K C
  g : mg x = some (.ref C)
  te : PySem.W.exmOne K (.ref C) (.ref C) = some true
  xf : XfC K C
  no : PySem.W.findIn K (.ref C) f = some none
section
variable {X : Cx} {x : Str} {C : Addr} {f y : Str} {ok : V → Prop} {k : Nat} {e : Expr} {te : TE} {p pos pos' : Pos} {W : WX}
theorem ps_raiseE (c : Err X.prog X.w X.K X.mg X.base x C f y ok k) (hc : X.calm = true) (tk : Takes X W) (hr : Room (k + 1) X.A) (he : PE X e te) (hg : Gl X x := by rfl) (hdb : (x == ("__debug__" : Str)) = false := by decide)
    (hst : starEach [e] X.env = (false, eval e X.env) :: starEach [] X.env := by rfl) (hpl : (backTo pos (starEach [] X.env)).any (·.1) = false := by rfl) :
    PS X (.Raise (some (.Call (.Name x p) [e] [] pos)) none pos') (fun _ σ H => te σ H fun v H1 => ok v ∧ ∀ d H3, Same H1 H3 → H1 d = none → H3 d = some (.xd [(f, v)]) → W (.ref C) (some d) σ H3) := by
  obtain ⟨fI, fd, iC, tI, F1, hb⟩ := c.init
  have he2 : PE X e (fun σ H Q => ∃ R : VK, te σ H R ∧ ∀ v H1, R v H1 → Q v H1) := ⟨fun pins s σ H Q I ⟨R, h, hR⟩ => thn (he.run pins s σ H R I h) fun v s1 ⟨x, H1, I1, r, q⟩ => ⟨x, H1, I1, r, hR _ _ q⟩⟩
  have z := ps_raise (pos := pos') hc tk (pmk_oex (pos := pos) (p := p) (dvs := []) c.exc iC tI F1 hr hb .nil (pass0) hg c.g (pa_cons he2 pa_nil hst) hdb hst hpl)
  refine ⟨fun pins s σ H D I h => z.run pins s σ H D I ?_⟩
  refine ⟨_, h, fun v H1 hq => ?_⟩
  obtain ⟨hok, hw⟩ := hq
  refine ⟨by show 1 ≤ 1000; decide, fun a na => ⟨a, v, rfl, hok, upd_same, fun d H' keep nd da ea ed => ?_⟩⟩
  have nd1 : H1 d = none := by
    rw [upd_ne da] at nd
    exact nd
  refine ⟨rfl, d, _, ea, ed, nd1, hw d _ (fun b o e => ?_) nd1 upd_same⟩
  have ba : b ≠ a := ne_of_none e na
  rw [upd_ne (ne_of_none e nd1), del_ne ba]
  exact keep b o ba (by rw [upd_ne ba]; exact e)
end
/-! ### isinstance of an error with a dict -/
def rIsD (K : PySem.W.Frag) (a : Addr) (cls : Value) (d : Option Addr) : List V → Hp → VK → Prop := fun xs H Q => ∃ (D dd : Addr) (c : V) (cv : Value) (b : Bool) (fs : List (Str × V)), xs = [.ref a, c] ∧ cls = .ref D ∧ d = some dd ∧ (PySem.W.clsIn K D).isSome = true ∧ ExcC K D ∧
  H dd = some (.xd fs) ∧ (∀ u, RelV c u → u = cv) ∧ PySem.W.kitOne K (.ref D) cv = some b ∧ Q (.bl b) H
theorem call_isD {X : Cx} {a : Addr} {cls : Value} {d : Option Addr} {oe : Obj} {pn : List (Addr × Obj)} (hz : Zc cls d oe) (hf : ∃ vs, oe.data = .fields vs) : CallR (X.suite a ((a, oe) :: pn)) (.builtin "isinstance") (rIsD X.K a cls d) := by
  intro pins s σ H xs us Q I r h
  obtain ⟨D, dd, c, cv, b, fs, rfl, rfl, rfl, hcl, C, hdd, hcv, e, q⟩ := h
  cases r with
  | cons rx rr =>
    cases rr with
    | cons rt rr =>
      cases rr
      cases rx
      have ec := hcv _ rt
      subst ec
      obtain ⟨hget, _⟩ := I.pin (a, oe) (List.mem_append.mpr (.inl List.mem_cons_self))
      obtain ⟨vs, hv⟩ := hf
      obtain ⟨oD, hD⟩ : ∃ o, s.heap.get? dd = some o := by
        obtain ⟨mA, hn, _⟩ := I.hok dd _ hdd
        obtain ⟨o, _, _, e, _⟩ := hn
        exact ⟨o, e⟩
      have J : PySem.W.InstAt s.heap a oe D (some oD) := by
        obtain ⟨oc, od, oda, osl⟩ := oe
        obtain ⟨h1, h2⟩ := hz
        dsimp only at h1 h2 hv
        subst h1 h2 hv
        exact ⟨hget, rfl, rfl, hD⟩
      exact PySem.W.kia_one (PySem.W.kitx_exc hcl C.hg C.hk C.hs C.ha C.hn C.ht C.hm) I.kIn J e (fun z => nomatch z) fun tk => ⟨.bl b, H, I.kept (t' := tk) fun _ _ z => z, rfl, q⟩
/-! ### calls of defs that may raise -/
section
variable {X : Cx} {CX : CXT} {k n : Nat} {f : Addr} {fd : FuncData} {ps ks : List Str} {sp : Sp} {E : L2.St → XK} {x : Str} {p pos : Pos} {e : Expr} {es : List Expr} {kws : List Keyword} {t tk : TA} {g : List Value → List Value → List Value} {gV : List V → List V → List V}
theorem run_fnNS {pins : List (Addr × Obj)} {σ : L2.St} {H : Hp} {s : Shared} {Q : VK} {us ws : List Value} {vs zs : List V} (F : FnOk X.prog X.w X.K X.mg X.base CX k f fd ps sp) (hr : Room k X.A) (hb : KBn X.K fd ps n ks g gV) (hx : PassesAt CX X σ (E σ))
    (I : Inv X pins σ H s) (r : Vals vs us) (rz : Vals zs ws) (l1 : vs.length = n) (l2 : zs.length = ks.length) (h : sp (gV vs zs) H Q (E σ)) : wpAny (model X.prog X.w) X.A (call (.ref f) us (ks.zip ws)) (EP X pins σ Q) X.xe s := by
  refine wpAny_call (codeAny_mono (F.run X.A X.stack s H ⟨us, ks.zip ws⟩ (g us ws) (gV vs zs) Q (E σ) hr I.env0 (hb.to s us ws I.kIn (by rw [← r.length]; exact l1) (by rw [← rz.length]; exact l2)) (hb.rel r rz) h) fun r s' hq => ?_)
  cases r with
  | error e => exact hx pins H s e s' I hq
  | ok fl =>
    cases fl with
    | ret u => exact I.after hq
    | next => exact False.elim hq
    | brk => exact False.elim hq
    | cont => exact False.elim hq
def tCallNS (n m : Nat) (sp : Sp) (gV : List V → List V → List V) (E : L2.St → XK) (t tk : TA) : TE := fun σ H Q => t σ H fun vs H1 => tk σ H1 fun zs H2 => vs.length = n ∧ zs.length = m ∧ sp (gV vs zs) H2 Q (E σ)
theorem pe_callNS (F : FnOk X.prog X.w X.K X.mg X.base CX k f fd ps sp) (hr : Room k X.A) (hg : Gl X x) (hm : X.mg x = some (.ref f)) (hk : PySem.W.keepIn X.K (.ref f) = true) (hb : KBn X.K fd ps n ks g gV) (hx : ∀ σ, PassesAt CX X σ (E σ))
    (ha : PA X (e :: es) t) (hkw : PK X kws tk) (hall : (backToKw pos (keywordEach kws X.env)).all (·.1.isSome) = true := by rfl) (hks : (backToKw pos (keywordEach kws X.env)).filterMap (·.1) = ks := by rfl)
    (hdb : (x == ("__debug__" : Str)) = false := by decide) (he : starEach (e :: es) X.env = (false, eval e X.env) :: starEach es X.env := by rfl)
    (hpl : ((backTo pos (starEach (e :: es) X.env)).any (·.1) || (backToKw pos (keywordEach kws X.env)).any (·.1.isNone)) = false := by rfl) :
    PE X (.Call (.Name x p) (e :: es) kws pos) (tCallNS n ks.length sp gV E t tk) := by
  refine ⟨fun pins s σ H Q I h => ?_⟩
  refine wpAny_Call_Name_kw (ld_glob I hg hm ?_ hdb)
  refine PySem.W.callWith_KW (h₀ := X.base) I.ok.mod.kin hk hall (thn (ha.run pos pins s σ H _ I h) fun us s1 ⟨vs, H1, I1, r, q⟩ => ?_) hpl he
  refine thn (hkw.run pos pins s1 σ H1 _ I1 q) fun ws s2 ⟨zs, H2, I2, rz, l1, l2, q2⟩ => ⟨I2.kIn, ?_⟩
  rw [hks]
  exact run_fnNS F hr hb (hx σ) I2 r rz l1 l2 q2
/-- the module's name x holds a def of one parameter and a keyword-only one with a default; it may raise -/
structure CalX (P : Program) (w : World) (K : PySem.W.Frag) (mg : Str → Option Value) (base : Heap) (x y : Str) (k : Nat) (ps : List Str) (dv : V) (sp : Sp) : Prop where
  ex : ∃ (f : Addr) (fd : FuncData), FnOk P w K mg base (L2.CX P w) k f fd ps sp ∧ mg x = some (.ref f) ∧ PySem.W.keepIn K (.ref f) = true ∧ (∃ ds, Vals [dv] ds ∧ Binds K fd ps ds) ∧ KBn K fd ps 1 [y] (fun us ws => us ++ ws) (fun vs zs => vs ++ zs)
variable {y : Str} {dv : V} {W : WX} {tk1 : TA}
def tCalX (sp : Sp) (dv : V) (W : WX) (t : TA) : TE := fun σ H Q => t σ H fun vs H1 => sp (vs ++ [dv]) H1 Q (fun cls d H' => W cls d σ H')
def tCalXK (sp : Sp) (W : WX) (t tk : TA) : TE := fun σ H Q => t σ H fun vs H1 => tk σ H1 fun zs H2 => vs.length = 1 ∧ zs.length = 1 ∧ sp (vs ++ zs) H2 Q (fun cls d H' => W cls d σ H')
theorem pe_calX (c : CalX X.prog X.w X.K X.mg X.base x y k ps dv sp) (tkW : Takes X W) (hr : Room k X.A) (ha : PA X (e :: es) t) (hg : Gl X x := by rfl) (hdb : (x == ("__debug__" : Str)) = false := by decide)
    (he : starEach (e :: es) X.env = (false, eval e X.env) :: starEach es X.env := by rfl) (hpl : (backTo pos (starEach es X.env)).any (·.1) = false := by rfl) : PE X (.Call (.Name x p) (e :: es) [] pos) (tCalX sp dv W t) := by
  obtain ⟨f, fd, ok, hm, kp, ⟨ds, hv, hb⟩, _⟩ := c.ex
  have z := pe_callSD (E := fun σ cls d H' => W cls d σ H') ok hr hg hm kp hb hv (fun σ => passAt tkW σ) ha hdb he hpl (p := p)
  exact ⟨fun pins s σ H Q I h => z.run pins s σ H Q I h⟩
theorem pe_calXK (c : CalX X.prog X.w X.K X.mg X.base x y k ps dv sp) (tkW : Takes X W) (hr : Room k X.A) (ha : PA X (e :: es) t) (hkw : PK X kws tk1) (hg : Gl X x := by rfl) (hall : (backToKw pos (keywordEach kws X.env)).all (·.1.isSome) = true := by rfl) (hks : (backToKw pos (keywordEach kws X.env)).filterMap (·.1) = [y] := by rfl)
    (hdb : (x == ("__debug__" : Str)) = false := by decide) (he : starEach (e :: es) X.env = (false, eval e X.env) :: starEach es X.env := by rfl)
    (hpl : ((backTo pos (starEach (e :: es) X.env)).any (·.1) || (backToKw pos (keywordEach kws X.env)).any (·.1.isNone)) = false := by rfl) : PE X (.Call (.Name x p) (e :: es) kws pos) (tCalXK sp W t tk1) := by
  obtain ⟨f, fd, ok, hm, kp, _, hb⟩ := c.ex
  have z := pe_callNS (E := fun σ cls d H' => W cls d σ H') ok hr hg hm kp hb (fun σ => passAt tkW σ) ha hkw hall hks hdb he hpl (p := p)
  exact ⟨fun pins s σ H Q I h => z.run pins s σ H Q I h⟩
end
end Er
/-! zip of two tuples, walked; great products and quotients; xs[::-1]. -/
namespace Zx
open PySem PySem.Spec PyProof.Rows L2 Bx TL Dx
theorem walk_zipT {K : PySem.W.Frag} {a b : Addr} {xs ys : List V} {n : Nat} (hn : n = min xs.length ys.length) : Walk (RZ.ItzT K a b) n (fun H => SqT K H a xs ∧ SqT K H b ys) (YPair (fun i => xs[i]?) (fun i => ys[i]?)) := by
  subst hn
  refine ⟨fun i _ hi q => ?_, fun _ q => ⟨xs, ys, q.1, q.2, by omega⟩, fun i H v H' _ q y => ?_⟩
  · have h1 : i < xs.length := by omega
    have h2 : i < ys.length := by omega
    exact ⟨xs, ys, xs[i], ys[i], q.1, q.2, by simp [h1], by simp [h2]⟩
  · obtain ⟨T, x, z, h1, h2, h3, h4, h5⟩ := y
    exact ⟨T, x, z, h1, h2, h3, h4 xs q.1, h5 ys q.2⟩
end Zx
namespace Zx
open PySem PySem.Spec PyProof.Rows L2
theorem ne_t {p : Prop} [Decidable p] (h : (!decide p) = true) : ¬ p := by simpa using h
theorem ne_f {p : Prop} [Decidable p] (h : ¬ (!decide p) = true) : p := by simpa using h
theorem int_t {x y : Int} (h : decide (V.int x = V.int y) = true) : x = y := V.int.inj (of_decide_eq_true h)
theorem int_f {x y : Int} (h : ¬ decide (V.int x = V.int y) = true) : x ≠ y := fun e => h (decide_eq_true (congrArg V.int e))
theorem int_nt {x y : Int} (h : (!decide (V.int x = V.int y)) = true) : x ≠ y := fun e => ne_t h (congrArg V.int e)
theorem int_nf {x y : Int} (h : ¬ (!decide (V.int x = V.int y)) = true) : x = y := V.int.inj (ne_f h)
end Zx
namespace Zx
open PySem PySem.Spec PyProof.Rows L2 Bx
section
variable {K : PySem.W.Frag}
theorem ty_tup {H : Hp} {a : Addr} {xs : List V} (h : SqT K H a xs) : TyX K H (.ref a) (.type "tuple") := by
  rcases h with (h | ⟨o, h⟩) | h
  · exact .base (.tup h)
  · exact .fTuple h
  · obtain ⟨o, its, n, h1, h2, _⟩ := h
    exact .kTuple h1 h2
def spRight : Sp := fun vs H Q _ => ∃ a : Addr, vs = [.ref a] ∧ Src H a ∧ ∀ H', SameBut a H H' → Q (.bl true) H'
end
end Zx
namespace Zx
open PySem PySem.Spec PyProof.Rows L2 Bx
theorem cont_of {α : Type} {R X : α → Prop} {G : Prop} (first : (∀ a, R a → X a) → G) (rest : ∀ a, R a → X a) : G := first rest
theorem cont_of2 {α β : Type} {R X : α → β → Prop} {G : Prop} (first : (∀ a b, R a b → X a b) → G) (rest : ∀ a b, R a b → X a b) : G := first rest
theorem but_new {a : Addr} {H H3 : Hp} {p : Addr} {o : HO} (h : H p = none) (s : SameBut a (upd H p o) H3) : SameBut a H H3 := fun b x n e => s b x n (by rw [upd_ne (ne_of_none e h)]; exact e)
theorem but_at {a : Addr} {H H2 : Hp} {p : Addr} {o : HO} (h : H p = none) (s : SameBut a H H2) : SameBut a H (upd H2 p o) := fun b x n e => by
  rw [upd_ne (ne_of_none e h)]
  exact s b x n e
theorem src_same {a : Addr} {H1 H2 : Hp} (s : Src H1 a) (t : Same H1 H2) : Src H2 a := by
  obtain ⟨n, c, h⟩ := s
  exact ⟨n, c, t _ _ h⟩
theorem src_ne {a o : Addr} {H : Hp} (s : Src H a) (h : H o = none) : a ≠ o := by
  obtain ⟨n, c, z⟩ := s
  exact ne_of_none z h
theorem but_free {a o : Addr} {H H1 : Hp} (s : SameBut a H H1) (n : o ≠ a) (h : H1 o = none) : H o = none := by
  cases e : H o with
  | none => rfl
  | some x =>
    rw [s o x n e] at h
    cases h
theorem src_upd {a o : Addr} {H : Hp} {u : HO} (s : Src H a) (n : a ≠ o) : Src (upd H o u) a := by
  obtain ⟨x, c, h⟩ := s
  exact ⟨x, c, by rw [upd_ne n]; exact h⟩

end Zx
namespace Zx
open PySem PySem.Spec PyProof.Rows L2 Bx
theorem set_same {σ : L2.St} {i : Nat} {v : V} (h : σ[i]? = some (some v)) : σ.set i (some v) = σ := by
  obtain ⟨hi, e⟩ := List.getElem?_eq_some_iff.mp h
  rw [← e]
  exact List.set_getElem_self hi
/-- if c: name = e -/
theorem if_asg {c : Prop} [Decidable c] {te : TE} {i : Nat} {D : Ends} {σ : L2.St} {H : Hp} {old : V} (R : V → Hp → Prop) (hi : σ[i]? = some (some old))
    (h1 : c → ∀ Z : V → Hp → Prop, (∀ v H', R v H' → Z v H') → te σ H Z) (h2 : ¬ c → R old H) (rest : ∀ v H', R v H' → D.nx (σ.set i (some v)) H') : if c then tAsg te (gName i) D σ H else tNext D σ H := by
  split
  · rename_i h
    exact h1 h (fun v H' => D.nx (σ.set i (some v)) H') rest
  · rename_i h
    have := rest old H (h2 h)
    rw [set_same hi] at this
    exact this
/-- if c: name = e else: name = f -/
theorem if_asg2 {c : Prop} [Decidable c] {te tf : TE} {i : Nat} {D : Ends} {σ : L2.St} {H : Hp} (R : V → Hp → Prop)
    (h1 : c → ∀ Z : V → Hp → Prop, (∀ v H', R v H' → Z v H') → te σ H Z) (h2 : ¬ c → ∀ Z : V → Hp → Prop, (∀ v H', R v H' → Z v H') → tf σ H Z) (rest : ∀ v H', R v H' → D.nx (σ.set i (some v)) H') : if c then tAsg te (gName i) D σ H else tAsg tf (gName i) D σ H := by
  split
  · rename_i h
    exact h1 h (fun v H' => D.nx (σ.set i (some v)) H') rest
  · rename_i h
    exact h2 h (fun v H' => D.nx (σ.set i (some v)) H') rest
end Zx
/-! Own classes: methods that operators and built-ins call. -/
namespace Ow
open PySem PySem.Spec PyProof.Rows L2 Bx TL Dx Zx
/-- the class at C (or one above it) has the method m, a def that keeps sp -/
structure OwM (P : Program) (w : World) (K : PySem.W.Frag) (mg : Str → Option Value) (base : Heap) (CX : CXT) (C : Addr) (m : Str) (k : Nat) (ps : List Str) (sp : Sp) : Prop where
  ex : ∃ (f : Addr) (fd : FuncData), FnOk P w K mg base CX k f fd ps sp ∧ PySem.W.findIn K (.ref C) m = some (some (.ref f)) ∧ PySem.W.isFn K (.ref f) = true ∧ PySem.W.keepIn K (.ref f) = true ∧ Binds K fd ps []
section
variable {X : Cx} {pins : List (Addr × Obj)} {σ : L2.St} {H : Hp} {s : Shared} {C a dx : Addr} {fs : List (Str × V)}
/-- an instance as the library's operators see it -/
theorem inst_of (I : Inv X pins σ H s) (e : H a = some (.ins C dx fs)) : ∃ od, PySem.W.InstAt s.heap a (PySem.W.instObj C dx) C (some od) := by
  obtain ⟨mA, J, _⟩ := ins_get I.hok e
  obtain ⟨od, J2, _⟩ := J.look
  exact ⟨od, J2⟩
/-- a def is called, somewhere within -/
theorem call_at {CX : CXT} {k : Nat} {f : Addr} {fd : FuncData} {ps : List Str} {sp : Sp} {A1 : Around} {us : List Value} {vs : List V} {Q : VK} {E : XK} {E1 : Value → Shared → Prop} (sb : Sub X k A1) (ok : FnOk X.prog X.w X.K X.mg X.base CX k f fd ps sp) (b : Binds X.K fd ps [])
    (I : Inv X pins σ H s) (r : Vals vs us) (hsp : sp vs H Q E) (hx : ∀ e s', CX X.stack H s E e s' → E1 e s') : wpAny (model X.prog X.w) A1 (call (.ref f) us) (EP X pins σ Q) E1 s := by
  have z0 := I.env0
  have e0 : Env0 X.prog X.w X.K X.mg X.base A1 X.stack s H := ⟨by rw [sb.fr]; exact z0.frames, z0.mod, z0.bs, z0.bsz, z0.funs, z0.frf, z0.hok, z0.bare⟩
  have n1 := ok.len _ _ _ _ hsp
  have n2 : us.length = ps.length := by rw [← r.length]; exact n1
  have bb := b s us I.kIn (by rw [List.append_nil]; exact n2)
  rw [List.append_nil] at bb
  refine wpAny_call (codeAny_mono (ok.run A1 X.stack s H ⟨us, []⟩ us vs Q E sb.room e0 bb r hsp) fun res s' back => ?_)
  match res, back with
  | .error e, back => exact hx e s' back
  | .ok (.ret u), back => exact I.after back
  | .ok .next, back => exact back.elim
  | .ok .brk, back => exact back.elim
  | .ok .cont, back => exact back.elim
theorem sub_self {n : Nat} (hr : Room n X.A) : Sub X n X.A := ⟨hr, rfl⟩
/-- len(o) -/
def rLenO (C : Addr) (sp : Sp) : List V → Hp → VK → Prop := fun xs H Q => ∃ a dx fs, xs = [.ref a] ∧ H a = some (.ins C dx fs) ∧ sp [.ref a] H (fun v H' => ∃ n : Nat, v = .int (n : Int) ∧ n < 2 ^ 62 ∧ Q (.int (n : Int)) H') E0
theorem call_lenO {k : Nat} {ps : List Str} {sp : Sp} (c : OwM X.prog X.w X.K X.mg X.base CX0 C "__len__" k ps sp) (hr : Room (k + 1) X.A) : CallR X (.builtin "len") (rLenO C sp) := by
  intro pins s σ H xs us Q I r h
  obtain ⟨a, dx, fs, rfl, ha, hsp⟩ := h
  obtain ⟨f, fd, ok, hs, hf, _, hb⟩ := c.ex
  obtain ⟨od, J⟩ := inst_of I ha
  obtain ⟨m, hF⟩ := I.fr
  have r0 := r
  cases r with
  | cons r1 r2 =>
    cases r2
    cases r1
    refine PySem.W.len_K hF I.ok.mod.kin J hs hf ?_
    refine wpAny_mono (call_at ((sub_self hr).in1) ok hb I r0 hsp (fun e s' z => z.elim)) (fun u s' hu => ?_) (fun _ _ z => z)
    obtain ⟨v, H', I', rv, n, rfl, hn, hq⟩ := hu
    obtain ⟨t, rfl⟩ := rv
    exact ⟨⟨by omega, by omega⟩, .int n, H', I'.tok _, ⟨_, rfl⟩, hq⟩
/-- x in o, x not in o -/
def rInO (C : Addr) (sp : Sp) (neg : Bool) : V → V → Hp → VK → Prop := fun x y H Q => ∃ a dx fs, y = .ref a ∧ H a = some (.ins C dx fs) ∧ sp [.ref a, x] H (fun v H' => ∃ b : Bool, v = .bl b ∧ Q (.bl (b != neg)) H') E0
theorem truth_bl {M : Model} {A : Around} {E : Value → Shared → Prop} {s : Shared} {b : Bool} {Q : Bool → Shared → Prop} (h : Q b s) : wpAny M A (truthy (.bool b)) Q E s := by
  unfold truthy
  exact wpAny_pure h
theorem op_inO {k : Nat} {ps : List Str} {sp : Sp} (c : OwM X.prog X.w X.K X.mg X.base CX0 C "__contains__" k ps sp) (hr : Room k X.A) : OpR X (compareOp .In) (rInO C sp false) := by
  intro pins s σ H x y u v Q I rx ry h
  obtain ⟨a, dx, fs, rfl, ha, hsp⟩ := h
  obtain ⟨f, fd, ok, hs, hf, _, hb⟩ := c.ex
  obtain ⟨od, J⟩ := inst_of I ha
  obtain ⟨m, hF⟩ := I.fr
  cases ry
  refine PySem.W.in_K hF I.ok.mod.kin J hs hf ?_
  refine wpAny_mono (call_at (sub_self hr) ok hb I (vs := [.ref a, x]) (.cons rfl (.cons rx .nil)) hsp (fun e s' z => z.elim)) (fun u s' hu => ?_) (fun _ _ z => z)
  obtain ⟨v, H', I', rv, b, rfl, hq⟩ := hu
  cases rv
  refine truth_bl ⟨.bl b, H', I', rfl, ?_⟩
  rw [show (b != false) = b by cases b <;> rfl] at hq
  exact hq
theorem op_notInO {k : Nat} {ps : List Str} {sp : Sp} (c : OwM X.prog X.w X.K X.mg X.base CX0 C "__contains__" k ps sp) (hr : Room k X.A) : OpR X (compareOp .NotIn) (rInO C sp true) := by
  intro pins s σ H x y u v Q I rx ry h
  obtain ⟨a, dx, fs, rfl, ha, hsp⟩ := h
  obtain ⟨f, fd, ok, hs, hf, _, hb⟩ := c.ex
  obtain ⟨od, J⟩ := inst_of I ha
  obtain ⟨m, hF⟩ := I.fr
  cases ry
  refine PySem.W.notIn_K hF I.ok.mod.kin J hs hf ?_
  refine wpAny_mono (call_at (sub_self hr) ok hb I (vs := [.ref a, x]) (.cons rfl (.cons rx .nil)) hsp (fun e s' z => z.elim)) (fun u s' hu => ?_) (fun _ _ z => z)
  obtain ⟨v, H', I', rv, b, rfl, hq⟩ := hu
  cases rv
  refine truth_bl ⟨.bl (!b), H', I', rfl, ?_⟩
  rw [show (b != true) = !b by cases b <;> rfl] at hq
  exact hq
end
end Ow
/-! Own classes: o[i], o op x, loops over o. -/
namespace Ow
open PySem PySem.Spec PyProof.Rows L2 Bx TL Dx Zx ItX
/-! ### o[i] -/
section
variable {X : Cx} {C : Addr} {CXc : CXT} {k : Nat} {ps : List Str} {sp : Sp} {W : WX} {a b : Expr} {ta tb : TE} {pos : Pos}
def tSubO (C : Addr) (sp : Sp) (W : WX) (ta tb : TE) : TE := fun σ H Q => ta σ H fun x H1 => tb σ H1 fun y H2 => ∃ p dx fs, x = .ref p ∧ H2 p = some (.ins C dx fs) ∧ sp [.ref p, y] H2 Q (fun cls d H' => W cls d σ H')
theorem pe_subO (c : OwM X.prog X.w X.K X.mg X.base CXc C "__getitem__" k ps sp) (fi : ∀ f, PySem.W.findIn X.K (.ref C) "__getitem__" = some (some (.ref f)) → PySem.W.fnIn X.K f = true) (hr : Room (k + 1) X.A) (hx : ∀ σ, PassesAt CXc X σ (fun cls d H' => W cls d σ H')) (ha : PE X a ta) (hb : PE X b tb)
    (hs : ∀ v u, subscripted b true v u = runValue (.builtin "lifetime.subscript" ⟨[v, u], []⟩) := by intro _ _; rfl) : PE X (.Subscript a b pos) (tSubO C sp W ta tb) := by
  refine ⟨fun pins s σ H Q I h => ?_⟩
  refine Subscript_ (binT ha hb I (R := fun x y H2 => ∃ p dx fs, x = .ref p ∧ H2 p = some (.ins C dx fs) ∧ sp [.ref p, y] H2 Q (fun cls d H' => W cls d σ H')) h fun v u s2 x y H2 I2 rx ry q => ?_)
  obtain ⟨p, dx, fs, rfl, hp, hsp⟩ := q
  obtain ⟨f, fd, ok, hfi, hf, _, hbd⟩ := c.ex
  obtain ⟨od, J⟩ := inst_of I2 hp
  obtain ⟨m, hF⟩ := I2.fr
  cases rx
  refine PySem.W.sub_K hF I2.ok.mod.kin J hfi (fi f hfi) hf ?_ (hs _ _)
  exact call_at ((sub_self hr).in1) ok hbd I2 (vs := [.ref p, y]) (.cons rfl (.cons ry .nil)) hsp (fun e s' z => hx σ pins H2 s2 e s' I2 z)
end
/-! ### o op x, x of a built-in type -/
/-- what the written part says of an operator of C with a second operand of the built-in type T -/
structure BinF (K : PySem.W.Frag) (C : Addr) (op : Operator) (T : String) : Prop where
  first : PySem.W.selfFirst K C = true
  refl : ∃ rc, PySem.W.findIn K (.ref C) (dunderR op.info.2) = some rc ∧ (rc = none ∨ ∃ g : Addr, rc = some (.ref g))
  t1 : ∃ fo, PySem.W.findIn K (.type T) (PySem.dunder op.info.2) = some fo
  t2 : ∃ ro, PySem.W.findIn K (.type T) (dunderR op.info.2) = some ro
  sub : PySem.W.subIn K (.type T) (.ref C) = some false
/-- the type of a value, looked at -/
def LkT (M : Model) (h : Heap) (v : Value) (T : String) : Prop := PySem.W.Looks M h (typeOf v) (.type T)
theorem bin_looks {prog : Program} {w : World} {A : Around} {E : Value → Shared → Prop} {s : Shared} {K : PySem.W.Frag} {x C f : Addr} {ox : Obj} {od : Option Obj} {T : String} {op : Operator} {b : Value} {Q : Value → Shared → Prop}
    (X : K.In s.heap) (I : PySem.W.InstAt s.heap x ox C od) (B : BinF K C op T) (hb : LkT (model prog w) s.heap b T) (hs : PySem.W.findIn K (.ref C) (PySem.dunder op.info.2) = some (some (.ref f))) (hf : PySem.W.isFn K (.ref f) = true)
    (h : wpAny (model prog w) A (call (.ref f) [.ref x, b]) (PySem.W.CmpBack Q) E s) : wpAny (model prog w) A (binaryOp op (.ref x) b) Q E s := by
  obtain ⟨hc, ⟨rc, hrc, hrp⟩, ⟨fo, h1⟩, ⟨ro, h2⟩, hsub⟩ := B
  obtain ⟨cd, rest, hcd, hm⟩ := PySem.W.ksp_first hc
  cases hi : op.info with
  | mk sym nm =>
    rw [hi] at hs hrc h1 h2
    dsimp only at hs hrc h1 h2
    have called := PySem.W.ksp_try X I hs hf h
    have d1 : PySem.W.Looks (model prog w) s.heap (typeOf (.ref x)) (.ref C) := I.type
    have d3 : PySem.W.Looks (model prog w) s.heap (fillsNumberSlot (.ref C) nm) true := PySem.W.fills_K X hcd hm hs
    have d4 := PySem.W.ksp_fillsT (M := model prog w) X h1 h2
    have d5 : PySem.W.Looks (model prog w) s.heap (isSubtype (.type T) (.ref C)) false := PySem.W.looks_subIn X hsub
    have d6 : PySem.W.Looks (model prog w) s.heap (numberSlotInPython (.ref C) nm) true := PySem.W.ksp_inPy X hs hrc hrp
    have d7 : PySem.W.Looks (model prog w) s.heap (numberSlotInPython (.type T) nm) false := PySem.W.Looks.of_pure rfl
    have d8 : PySem.W.Looks (model prog w) s.heap (typeLookup (.type T) (dunderR nm)) ro := PySem.W.looks_findIn X h2
    unfold LkT at hb
    clear X I hs hf h
    obtain ⟨hp, g, dd, tt, os⟩ := s
    generalize ((fo.isSome && !isSeqSlot fo) || (ro.isSome && !isSeqSlot ro)) = right at d4
    have other : (Value.ref C == Value.type T) = false := by
      cases z : (Value.ref C == Value.type T) with
      | false => rfl
      | true => cases beq_iff_eq.mp z
    simp only [binaryOp, hi]
    refine wpAny_holding (wpAny_bind ?_)
    unfold binaryOp1
    refine wpAny_bind (d1.at (wpAny_bind ?_))
    refine hb.at (wpAny_bind (d3.at ?_))
    simp only [other, Bool.false_eq_true, if_false]
    cases right
    · ksp_lk
      refine wpAny_mono called (fun r s' z => ?_) fun _ _ e => e
      obtain ⟨v, rfl, z⟩ := z
      ksp_lk
      exact z
    · ksp_lk
      refine wpAny_mono called (fun r s' z => ?_) fun _ _ e => e
      obtain ⟨v, rfl, z⟩ := z
      ksp_lk
      exact z
end Ow
namespace Ow
open PySem PySem.Spec PyProof.Rows L2 Bx TL Dx Zx ItX
section
variable {X : Cx} {pins : List (Addr × Obj)} {σ : L2.St} {H : Hp} {s : Shared}
/-- the built-in types of second operands -/
inductive TyO (K : PySem.W.Frag) (H : Hp) : V → String → Prop
  | int (i : Int) : TyO K H (.int i) "int"
  | str (z : Str) : TyO K H (.str z) "str"
  | tup {p : Addr} {xs : List V} (h : SqT K H p xs) : TyO K H (.ref p) "tuple"
theorem lk_of {y : V} {v : Value} {T : String} (I : Inv X pins σ H s) (r : RelV y v) (t : TyO X.K H y T) : LkT (model X.prog X.w) s.heap v T := by
  cases t with
  | int i =>
    obtain ⟨u, rfl⟩ := r
    exact PySem.W.Looks.of_pure rfl
  | str z =>
    obtain ⟨u, rfl⟩ := r
    exact PySem.W.Looks.of_pure rfl
  | tup h =>
    cases r
    obtain ⟨its, rv, ht, _⟩ := I.tuple h
    obtain ⟨o, ho, hc, _⟩ := ht
    unfold LkT
    rw [← hc]
    exact (PySem.W.Looks.ld ho).andThen .now
theorem back_ep {Q : VK} {u : Value} {s' : Shared} (h : EP X pins σ Q u s') : PySem.W.CmpBack (EP X pins σ Q) u s' := by
  obtain ⟨v, H', I', r, q⟩ := h
  have h2 : EP X pins σ Q u s' := ⟨v, H', I', r, q⟩
  cases v with
  | non => cases r; exact h2
  | bl b => cases r; exact h2
  | int i => obtain ⟨t, rfl⟩ := r; exact h2
  | str z => obtain ⟨t, rfl⟩ := r; exact h2
  | byt b => obtain ⟨t, rfl⟩ := r; exact h2
  | flt b => obtain ⟨t, rfl⟩ := r; exact h2
  | ref a => cases r; exact h2
  | ty n => cases r; exact h2
end
section
variable {X : Cx} {C : Addr} {CXc : CXT} {k : Nat} {ps : List Str} {sp : Sp} {W : WX} {a b : Expr} {ta tb : TE} {pos : Pos} {op : Operator} {T m : String}
def tBinO (K : PySem.W.Frag) (C : Addr) (T : String) (sp : Sp) (W : WX) (ta tb : TE) : TE := fun σ H Q => ta σ H fun x H1 => tb σ H1 fun y H2 => ∃ p dx fs, x = .ref p ∧ H2 p = some (.ins C dx fs) ∧ TyO K H2 y T ∧ sp [.ref p, y] H2 Q (fun cls d H' => W cls d σ H')
theorem pe_binO (c : OwM X.prog X.w X.K X.mg X.base CXc C (PySem.dunder op.info.2) k ps sp) (B : BinF X.K C op T) (hr : Room k X.A) (hx : ∀ σ, PassesAt CXc X σ (fun cls d H' => W cls d σ H')) (ha : PE X a ta) (hb : PE X b tb) : PE X (.BinOp a op b pos) (tBinO X.K C T sp W ta tb) := by
  refine ⟨fun pins s σ H Q I h => ?_⟩
  refine wpAny_BinOp (binT ha hb I (R := fun x y H2 => ∃ p dx fs, x = .ref p ∧ H2 p = some (.ins C dx fs) ∧ TyO X.K H2 y T ∧ sp [.ref p, y] H2 Q (fun cls d H' => W cls d σ H')) h fun v u s2 x y H2 I2 rx ry q => ?_)
  obtain ⟨p, dx, fs, rfl, hp, ht, hsp⟩ := q
  obtain ⟨f, fd, ok, hfi, hf, _, hbd⟩ := c.ex
  obtain ⟨od, J⟩ := inst_of I2 hp
  cases rx
  refine bin_looks I2.kIn J B (lk_of I2 ry ht) hfi hf ?_
  refine wpAny_mono (call_at (sub_self hr) ok hbd I2 (vs := [.ref p, y]) (.cons rfl (.cons ry .nil)) hsp (fun e s' z => hx σ pins H2 s2 e s' I2 z)) (fun u s' z => back_ep z) fun _ _ z => z
end
/-! ### iter(t), t a tuple -/
def TiO (t it : Addr) : HO := .ext fun h => h.IsTupleIter it t 0
theorem tiO_ok {P : Program} {w : World} {H : Hp} {h : Heap} {t it : Addr} (e : h.IsTupleIter it t 0) : ObjOk P w H h it (TiO t it) := by
  obtain ⟨o, ho, hc, hd⟩ := id e
  exact ⟨e, ⟨o, ho⟩, fun h1 h2 z k => z.at fun o e => k _ e⟩
def rIterT (K : PySem.W.Frag) (n : Nat) : List V → Hp → VK → Prop := fun xs H Q => ∃ (t : Addr) (zs : List V), xs = [.ref t] ∧ SqT K H t zs ∧ ∀ it, H it = none → n ≤ it → Q (.ref it) (upd H it (TiO t it))
theorem call_iterT {X : Cx} : CallR X (.builtin "iter") (rIterT X.K X.s_0.heap.objs.size) := by
  intro pins s σ H xs us Q I r h
  obtain ⟨t, zs, rfl, hq, q⟩ := h
  cases r with
  | cons r1 r2 =>
    cases r2
    cases r1
    obtain ⟨its, rv, pl, hz⟩ := I.tuple hq
    refine Calls.call_function_entry (by decide +kernel) (by decide +kernel) PySem.W.kdk_entry_iter (PySem.W.kdk_args_iter _) ?_
    unfold Builtin.«iter»
    refine wpAny_bind (m := someArgs "iter" 1 2 _) (wpAny_of_eq (a := [Value.ref t]) (by first | rfl | kernel_rfl!) ?_)
    show wpAny _ _ (pyIter (.ref t) >>= _) _ _ _
    refine wpAny_bind (wpAny_pyIter_tuple pl ?_)
    refine wpAny_pure ⟨_, rfl, .ref s.heap.objs.size, _, I.laid (t' := s.toks) (fun b u e => Heap.get?_push_of_some _ e) (Nat.le_refl _) (tiO_ok ⟨_, Heap.get?_push_size _ rfl, rfl, rfl⟩), rfl, q _ (I.hok.fresh (Nat.le_refl _)) I.sz⟩
end Ow
namespace Ow
open PySem PySem.Spec PyProof.Rows L2 Bx TL Dx Zx ItX
/-- a def of the text, called at a state that one knows -/
theorem run_here {CX : CXT} {P : Program} {w : World} {K : PySem.W.Frag} {mg : Str → Option Value} {base : Heap} {k : Nat} {f : Addr} {nm qn : Str} {params : Arguments} {body : List Stmt} {scope : Scope} {dV kV doc pm cdv ct oc : Value} {an od : Option Addr} {osl : Array (Option Value)} {N ps : List Str}
    {A : Around} {outer : List Env} {s : Shared} {H : Hp} {args : Args} {us : List Value} {vs : List V} {Q : VK} {E : XK} (lk : K.lookup f = some ⟨oc, od, .func (PySem.W.fnOf nm qn params body scope dV kV doc pm an cdv ct), osl⟩) (cd : PySem.W.codeIn K cdv qn = true) (S : FnScope N ps scope) (room : Room (k + 1) A)
    (e0 : Env0 P w K mg base A outer s H) (hb : BindsTo s (PySem.W.fnOf nm qn params body scope dV kV doc pm an cdv ct) args (ps.zip us)) (rel : Vals vs us) (len : vs.length = ps.length)
    (reads : Room k (A.deeper (envOfC qn scope s.heap.objs.size f cdv)) → ∃ t, PSs (cxOf CX P w K mg base N qn scope f cdv A outer s H E) body t ∧ t { nx := fun _ H' => Q .non H', rt := Q } (start N vs) H) :
    codeAny (model P w) A (.call (.ref f) args) (CR CX outer P w H s Q E) s := by
  have kx : K.In s.heap := e0.mod.kin.keeps (fun p q z => (e0.bs p q z).1)
  have open_ : s.heap.NoLimit := e0.mod.nolimit.keeps (fun p q z => (e0.bs p q z).1)
  have kinds : ∀ y ∈ ps.zip us, scope.names.lookup y.1 = some .local ∨ (scope.names.lookup y.1 = some .cell ∧ ((cellsFrom (s.heap.objs.size + 1) scope.names []).lookup y.1).isSome = true) := by
    rintro ⟨one, val⟩ hy
    exact (S.par one (List.of_mem_zip hy).1).imp id (fun q => ⟨q, PySem.W.cellsFrom_some _ _ _ (.inl q)⟩)
  refine codeAny_call_function room.depth (kx _ _ lk) rfl S.co S.gen rfl (PySem.W.codeRec_of kx cd) ?_
  refine hb _ _ _ _ ?_
  refine wpAny_newFunctionEnv_cells S.kind kinds (fun env he s1 x => ?_)
  cases he
  refine ⟨open_.keeps x.toInCall.keep, codeAny_func ?_⟩
  obtain ⟨t, pt, ht⟩ := reads (room.deeper _)
  have J0 := inv_start (CX := CX) (E := E) S room.hd e0 len rel x
  refine wpAny_mono (pt.run [] s1 (start N vs) H _ J0 ht) ?_ (fun e s' z => z)
  intro fl s' back
  match fl, back with
  | .ret u, ⟨v, σ', H', J, rv, q⟩ => exact ⟨v, H', J.os, J.bare, J.base, J.hok, rv, q⟩
  | .next, ⟨σ', H', J, q⟩ => exact ⟨V.non, H', J.os, J.bare, J.base, J.hok, rfl, q⟩
  | .brk, ⟨_, _, _, q⟩ => exact q.elim
  | .cont, ⟨_, _, _, q⟩ => exact q.elim
/-! ### for x in o, where def __iter__(self): return iter(self.f) -/
structure ItM (P : Program) (w : World) (K : PySem.W.Frag) (mg : Str → Option Value) (base : Heap) (C : Addr) (f : Str) (k : Nat) : Prop where
  ex : ∃ fi : Addr, PySem.W.findIn K (.ref C) "__iter__" = some (some (.ref fi)) ∧ PySem.W.isFn K (.ref fi) = true ∧
    ∀ (A : Around) (outer : List Env) (s : Shared) (H : Hp) (E : XK) (p dx t : Addr) (fs : List (Str × V)) (zs : List V), Room k A → Env0 P w K mg base A outer s H → H p = some (.ins C dx fs) → fs.lookup f = some (.ref t) → SqT K H t zs →
      codeAny (model P w) A (.call (.ref fi) ⟨[.ref p], []⟩) (CR CX0 outer P w H s (fun v H' => ∃ it, v = .ref it ∧ H it = none ∧ s.heap.objs.size ≤ it ∧ H' = upd H it (TiO t it)) E) s
section
variable {X : Cx} {C : Addr}
def tIterO (K : PySem.W.Frag) (C : Addr) (f : Str) (te : TE) : TI := fun σ H R => te σ H fun x H1 => ∃ p dx fs t zs, x = .ref p ∧ H1 p = some (.ins C dx fs) ∧ fs.lookup f = some (.ref t) ∧ SqT K H1 t zs ∧ R (Itt K t) H1
theorem pi_iterO {tg l : Expr} {te : TE} {k : Nat} {f : Str} (c : ItM X.prog X.w X.K X.mg X.base C f k) (hr : Room k X.A) (he : PE X l te) : PI X tg l (tIterO X.K C f te) := by
  refine ⟨fun pins s σ H R I h => ?_⟩
  refine thn (he.run pins s σ H _ I h) fun v s1 ⟨x, H1, I1, r1, q1⟩ => ?_
  obtain ⟨p, dx, fs, t, zs, rfl, hp, hl, hz, hR⟩ := q1
  obtain ⟨fi, hfi, hf, go⟩ := c.ex
  obtain ⟨od, J⟩ := inst_of I1 hp
  obtain ⟨m, hF⟩ := I1.fr
  cases r1
  refine PySem.W.owit_iter hF I1.ok.mod.kin J hfi hf ?_
  refine wpAny_call (codeAny_mono (go X.A X.stack s1 H1 E0 p dx t fs zs hr I1.env0 hp hl hz) fun res s' back => ?_)
  match res, back with
  | .error e, back => exact back.elim
  | .ok .next, back => exact back.elim
  | .ok .brk, back => exact back.elim
  | .ok .cont, back => exact back.elim
  | .ok (.ret u), back =>
    obtain ⟨v, H2, I2, rv, it, rfl, n1, hy, rfl⟩ := I1.after back
    cases rv
    have e2 : upd H1 it (TiO t it) it = some (TiO t it) := upd_same
    have hit : s'.heap.IsTupleIter it t 0 := by
      have : ObjOk X.prog X.w (upd H1 it (TiO t it)) s'.heap it (.ext fun h => h.IsTupleIter it t 0) := I2.hok it _ e2
      exact this.1
    show wpAny _ _ (specialOf (.ref it) "__next__") _ _ _
    refine wpAny_specialOf (name := Str.ofString "__next__") hit.typeIs PySem.F.slot_tuple_iterator_next.lookup ?_
    have hn : X.s_0.heap.objs.size ≤ it := Nat.le_trans I1.sz hy
    have I3 := inv_drop I2 e2
    have fp := inv_fp I2 e2 hn
    rw [dropH_upd n1] at I3 fp
    refine ⟨it, [it], _, _, H1, rfl, I3, turn_tuple t it, hit, fun b hb => ?_, hR⟩
    rw [List.mem_singleton.mp hb]
    exact fp
end
end Ow
/-! Own classes: o + p of one class, k * o, -o; dict(t) of a tuple of pairs. -/
namespace Ow
open PySem PySem.Spec PyProof.Rows L2 Bx TL Dx Zx ItX
theorem bin_same {prog : Program} {w : World} {A : Around} {E : Value → Shared → Prop} {s : Shared} {K : PySem.W.Frag} {x y C f : Addr} {ox oy : Obj} {od oe : Option Obj} {op : Operator} {Q : Value → Shared → Prop}
    (X : K.In s.heap) (I : PySem.W.InstAt s.heap x ox C od) (J : PySem.W.InstAt s.heap y oy C oe) (first : PySem.W.selfFirst K C = true) (hs : PySem.W.findIn K (.ref C) (PySem.dunder op.info.2) = some (some (.ref f))) (hf : PySem.W.isFn K (.ref f) = true)
    (h : wpAny (model prog w) A (call (.ref f) [.ref x, .ref y]) (PySem.W.CmpBack Q) E s) : wpAny (model prog w) A (binaryOp op (.ref x) (.ref y)) Q E s := by
  obtain ⟨cd, rest, hcd, hm⟩ := PySem.W.ksp_first first
  cases hi : op.info with
  | mk sym nm =>
    rw [hi] at hs
    dsimp only at hs
    have called := PySem.W.ksp_try X I hs hf h
    have d1 : PySem.W.Looks (model prog w) s.heap (typeOf (.ref x)) (.ref C) := I.type
    have d2 : PySem.W.Looks (model prog w) s.heap (typeOf (.ref y)) (.ref C) := J.type
    have d3 : PySem.W.Looks (model prog w) s.heap (fillsNumberSlot (.ref C) nm) true := PySem.W.fills_K X hcd hm hs
    clear X I J hs hf h
    obtain ⟨hp, g, dd, tt, os⟩ := s
    have same : (Value.ref C == Value.ref C) = true := beq_self_eq_true _
    simp only [binaryOp, hi]
    refine wpAny_holding (wpAny_bind ?_)
    unfold binaryOp1
    refine wpAny_bind (d1.at (wpAny_bind ?_))
    refine d2.at (wpAny_bind (d3.at ?_))
    simp only [same, if_true]
    ksp_lk
    refine wpAny_mono called (fun r s' z => ?_) fun _ _ e => e
    obtain ⟨v, rfl, z⟩ := z
    ksp_lk
    exact z
section
variable {X : Cx} {C : Addr} {k : Nat} {ps : List Str} {sp : Sp} {op : Operator}
def rBinSame (C : Addr) (sp : Sp) : V → V → Hp → VK → Prop := fun x y H Q => ∃ p q dx dy fs gs, x = .ref p ∧ y = .ref q ∧ H p = some (.ins C dx fs) ∧ H q = some (.ins C dy gs) ∧ sp [.ref p, .ref q] H Q E0
theorem op_same (c : OwM X.prog X.w X.K X.mg X.base CX0 C (PySem.dunder op.info.2) k ps sp) (first : PySem.W.selfFirst X.K C = true) (hr : Room k X.A) : OpR X (binaryOp op) (rBinSame C sp) := by
  intro pins s σ H x y u v Q I rx ry h
  obtain ⟨p, q, dx, dy, fs, gs, rfl, rfl, hp, hq, hsp⟩ := h
  obtain ⟨f, fd, ok, hs, hf, _, hb⟩ := c.ex
  obtain ⟨od, J⟩ := inst_of I hp
  obtain ⟨oe, J2⟩ := inst_of I hq
  cases rx
  cases ry
  refine bin_same I.kIn J J2 first hs hf ?_
  refine wpAny_mono (call_at (sub_self hr) ok hb I (vs := [.ref p, .ref q]) (.cons rfl (.cons rfl .nil)) hsp (fun e s' z => z.elim)) (fun u s' z => back_ep z) fun _ _ z => z
/-- o op x -/
def rBinT (K : PySem.W.Frag) (C : Addr) (T : String) (sp : Sp) : V → V → Hp → VK → Prop := fun x y H Q => ∃ p dx fs, x = .ref p ∧ H p = some (.ins C dx fs) ∧ TyO K H y T ∧ sp [.ref p, y] H Q E0
theorem op_ownT {T : String} (c : OwM X.prog X.w X.K X.mg X.base CX0 C (PySem.dunder op.info.2) k ps sp) (B : BinF X.K C op T) (hr : Room k X.A) : OpR X (binaryOp op) (rBinT X.K C T sp) := by
  intro pins s σ H x y u v Q I rx ry h
  obtain ⟨p, dx, fs, rfl, hp, ht, hsp⟩ := h
  obtain ⟨f, fd, ok, hs, hf, _, hb⟩ := c.ex
  obtain ⟨od, J⟩ := inst_of I hp
  cases rx
  refine bin_looks I.kIn J B (lk_of I ry ht) hs hf ?_
  refine wpAny_mono (call_at (sub_self hr) ok hb I (vs := [.ref p, y]) (.cons rfl (.cons ry .nil)) hsp (fun e s' z => z.elim)) (fun u s' z => back_ep z) fun _ _ z => z
/-- -o -/
theorem un_negO (c : OwM X.prog X.w X.K X.mg X.base CX0 C "__neg__" k ps sp) (hr : Room k X.A) : UnR X (unaryOp .USub) (fun x H Q => ∃ p dx fs, x = .ref p ∧ H p = some (.ins C dx fs) ∧ sp [.ref p] H Q E0) := by
  intro pins s σ H x u Q I rx h
  obtain ⟨p, dx, fs, rfl, hp, hsp⟩ := h
  obtain ⟨f, fd, ok, hs, hf, _, hb⟩ := c.ex
  obtain ⟨od, J⟩ := inst_of I hp
  obtain ⟨m, hF⟩ := I.fr
  cases rx
  refine PySem.W.ksp_neg hF I.ok.mod.kin J hs hf ?_
  exact call_at (sub_self hr) ok hb I (vs := [.ref p]) (.cons rfl .nil) hsp (fun e s' z => z.elim)
/-- o[i] -/
theorem pe_subO0 {a b : Expr} {ta tb : TE} {pos : Pos} (c : OwM X.prog X.w X.K X.mg X.base CX0 C "__getitem__" k ps sp) (fi : ∀ f, PySem.W.findIn X.K (.ref C) "__getitem__" = some (some (.ref f)) → PySem.W.fnIn X.K f = true) (hr : Room (k + 1) X.A) (ha : PE X a ta) (hb : PE X b tb)
    (hs : ∀ v u, subscripted b true v u = runValue (.builtin "lifetime.subscript" ⟨[v, u], []⟩) := by intro _ _; rfl) : PE X (.Subscript a b pos) (tSubO C sp (fun _ _ _ _ => False) ta tb) :=
  pe_subO c fi hr (fun _ _ _ _ _ _ _ h => h.elim) ha hb hs
end
end Ow
/-! tuple(xs) without a dict of its own; dict(t) of such a tuple of pairs; k * o. -/
namespace Ow
open PySem PySem.Spec PyProof.Rows L2 Bx TL Dx Zx ItX
/-- a tuple without a dict of its own -/
def PlT (H : Hp) (a : Addr) (xs : List V) : Prop := ∃ o, H a = some (.frz o (.tup xs)) ∧ o.dict = none
theorem PlT.sq {K : PySem.W.Frag} {H : Hp} {a : Addr} {xs : List V} (h : PlT H a xs) : SqT K H a xs := .inl (.inr ⟨_, h.choose_spec.1⟩)
theorem PlT.same {H H' : Hp} {a : Addr} {xs : List V} (s : Same H H') (h : PlT H a xs) : PlT H' a xs := ⟨_, s _ _ h.choose_spec.1, h.choose_spec.2⟩
section
variable {X : Cx}
def rTupF (K : PySem.W.Frag) : List V → Hp → VK → Prop := fun xs H Q => ∃ p ys, xs = [.ref p] ∧ SqL K H p ys ∧ ∀ l o, H l = none → o.dict = none → Q (.ref l) (upd H l (.frz o (.tup ys)))
theorem call_tupleF : CallR X (.type "tuple") (rTupF X.K) := by
  intro pins s σ H xs us Q I r h
  obtain ⟨p, ys, rfl, hq, q⟩ := h
  obtain ⟨u, rfl, rx⟩ := vals1 r
  cases rx
  obtain ⟨its, r', pl, hz⟩ := I.list hq
  have hlen := r'.length
  refine call_tuple_list pl.isList (fun h' kp => ?_) (by simp only [List.size_toArray] <;> omega)
  have I1 : Inv X pins σ H { s with heap := h' } := I.kept (t' := s.toks) kp
  let o : Obj := { cls := .type "tuple", data := .seq its.toArray }
  have I2 : Inv X pins σ (upd H h'.objs.size (.frz o (.tup ys))) { s with heap := h'.push o } :=
    I1.laid (t' := s.toks) (fun b o e => Heap.get?_push_of_some _ e) (Nat.le_refl _) (show ObjOk X.prog X.w _ _ _ (.frz o (.tup ys)) from ⟨Heap.get?_push_size _ rfl, hz, its, r', IsTup.new _ _⟩)
  exact ⟨.ref h'.objs.size, _, I2, rfl, q _ o (I1.hok.fresh (Nat.le_refl _)) rfl⟩
def rDictT (K : PySem.W.Frag) : List V → Hp → VK → Prop := fun xs H Q => ∃ (a : Addr) (ps : List Addr) (kvs : List (Key × V)), xs = [.ref a] ∧ PlT H a (ps.map V.ref) ∧ Paired (fun p kv => SqT K H p [kV kv.1, kv.2]) ps kvs ∧
    ∀ p, H p = none → Q (.ref p) (upd H p (.dK (mergeK [] kvs)))
theorem call_dictT (hcalm : X.calm = true) : CallR X (.type "dict") (rDictT X.K) := by
  intro pins s σ H xs us Q I r q
  obtain ⟨a, ps, kvs, rfl, ⟨o, ha, hod⟩, hp, q⟩ := q
  obtain ⟨u, rfl, rx⟩ := vals1 r
  cases rx
  obtain ⟨hg, hz, its, rv, o2, ho2, hc, n, hdat⟩ : ObjOk X.prog X.w H s.heap a (.frz o (.tup (ps.map V.ref))) := I.hok a _ ha
  rw [hg] at ho2
  obtain rfl := Option.some.inj ho2
  have ei := refs_at rv
  subst ei
  obtain ⟨prs, rel, hl, hpr⟩ := pairs_of I hp
  rw [List.length_map] at hz
  have at_ : ∀ (j : Nat) (q : Key × Value), prs[j]? = some q → ∃ u : Value, IsTup s.heap (ps.getD j 0) #[u, q.2] ∧ ps[j]? = some (ps.getD j 0) ∧ keyIs q.1 u = true := fun j q e => by
    obtain ⟨b, u, e1, e2, e3⟩ := hpr j q e
    have e4 : ps.getD j 0 = b := by rw [List.getD_eq_getElem?_getD, e1]; rfl
    rw [e4]
    exact ⟨u, e2, e1, e3⟩
  classical
  let key : Nat → Value := fun j => match prs[j]? with
    | some q => (if h : ∃ u : Value, IsTup s.heap (ps.getD j 0) #[u, q.2] ∧ keyIs q.1 u = true then h.choose else .none)
    | none => .none
  have keyAt : ∀ (j : Nat) (q : Key × Value), prs[j]? = some q → IsTup s.heap (ps.getD j 0) #[key j, q.2] ∧ keyIs q.1 (key j) = true := fun j q e => by
    obtain ⟨u, h1, _, h3⟩ := at_ j q e
    have hh : ∃ u : Value, IsTup s.heap (ps.getD j 0) #[u, q.2] ∧ keyIs q.1 u = true := ⟨u, h1, h3⟩
    have ek : key j = hh.choose := by
      show (match prs[j]? with | some q => _ | none => _) = _
      rw [e]
      exact dif_pos hh
    rw [ek]
    exact hh.choose_spec
  let vps : List (Value × Value) := (List.range prs.length).map fun j => (key j, match prs[j]? with | some q => q.2 | none => .none)
  have vlen : vps.length = prs.length := by simp [vps]
  have vat : ∀ j k v, vps[j]? = some (k, v) → ∃ q : Key × Value, prs[j]? = some q ∧ k = key j ∧ v = q.2 := fun j k v e => by
    have hj : j < prs.length := by
      have := (List.getElem?_eq_some_iff.mp e).1
      omega
    have e1 : prs[j]? = some prs[j] := List.getElem?_eq_getElem hj
    refine ⟨prs[j], e1, ?_⟩
    have e2 : vps[j]? = some (key j, prs[j].2) := by
      simp only [vps, List.getElem?_map, List.getElem?_range hj, Option.map_some, e1]
    rw [e2] at e
    cases e
    exact ⟨rfl, rfl⟩
  have P := PySem.PairArg.tuple (prog := X.prog) (w := X.w) a (ps.map Value.ref).toArray (fun j => ps.getD j 0) vps
  refine PySem.call_dict_pairs (knd := mixKind X.prog X.w) (kvs := prs) P (I.ok.hd hcalm) ⟨⟨o, n, hg, hc, hod, hdat⟩, by rw [List.size_toArray, List.length_map, vlen, hl], fun j k v e => ?_⟩ ⟨vlen.symm, fun i k v e => ?_⟩ (by rw [vlen, hl]; exact hz) fun h' tk hd' kp => ?_
  · obtain ⟨q, e1, rfl, rfl⟩ := vat j k v e
    obtain ⟨u, _, e3, _⟩ := at_ j q e1
    refine ⟨?_, .inl (keyAt j q e1).1⟩
    rw [List.getElem?_toArray, List.getElem?_map, e3]
    rfl
  · obtain ⟨q, e1, rfl, rfl⟩ := vat i k v e
    exact ⟨q.1, e1, (keyAt i q e1).2⟩
  · have hm : (s.heap.objs.size == sysModules) = false := beq_eq_false_iff_ne.mpr (Nat.ne_of_gt I.big)
    have hlen : (mergeK [] kvs).length ≤ sizeLine := by
      refine Nat.le_trans (length_mergeK kvs []) ?_
      rw [List.length_nil, Nat.zero_add, rel.length, hl]
      exact hz
    exact ⟨.ref s.heap.objs.size, upd H s.heap.objs.size (.dK (mergeK [] kvs)), I.laid (t' := tk) (fun b o e => kp b o (fun h => nomatch h) e) (Nat.le_refl _) (show ObjOk X.prog X.w _ _ _ (.dK (mergeK [] kvs)) from ⟨hlen, hm, merged [] prs, KV.merge rel .nil, hd'⟩), rfl, q _ (I.hok.fresh (Nat.le_refl _))⟩
end
/-! ### k * o -/
theorem int_mul_ins (a : Int) (t : Tok) (l C dx : Addr) :
    Meets (Builtin.«int.__mul__» ⟨[.int a t, .ref l], []⟩) (fun _ R s => s.heap.get? l = some (PySem.W.instObj C dx) ∧ R (.ok (.ret Value.notImplemented)) s) :=
  .of_wp fun prog w A R s h => by obtain ⟨hp, g, d, tk, os⟩ := s; obtain ⟨hl, h⟩ := h; wp_walk; exact ⟨_, rfl, h⟩
theorem int_declines {prog : Program} {w : World} {A : Around} {E : Value → Shared → Prop} {s : Shared} {k : Int} {t : Tok} {x C dx : Addr} {Q : Value → Shared → Prop} (hg : s.heap.get? x = some (PySem.W.instObj C dx)) (q : Q .notImplemented s) :
    wpAny (model prog w) A (call (.builtin "int.__mul__") [.int k t, .ref x]) Q E s :=
  call_meets F.slot_int_mul (typeIs_int s k t) F.entry_int_mul (F.args_int_mul_2 _ _) (int_mul_ins k t x C dx) ⟨hg, q⟩
theorem try_declines {prog : Program} {w : World} {A : Around} {E : Value → Shared → Prop} {s : Shared} {k : Int} {t : Tok} {x C dx : Addr} {Q : Option Value → Shared → Prop} (hg : s.heap.get? x = some (PySem.W.instObj C dx)) (q : Q none s) :
    wpAny (model prog w) A (tryMethod (.int k t) (dunder "mul") (.ref x)) Q E s := by
  refine wpAny_tryMethod_declines (T := "int") (name := dunder "mul") (id := "int.__mul__") ?_ ?_ ?_
  · exact typeIs_int s k t
  · exact F.slot_int_mul
  exact int_declines hg ⟨rfl, q⟩
theorem bin_right {prog : Program} {w : World} {A : Around} {E : Value → Shared → Prop} {s : Shared} {K : PySem.W.Frag} {x C f dx : Addr} {od : Option Obj} {k : Int} {t : Tok} {Q : Value → Shared → Prop}
    (X : K.In s.heap) (I : PySem.W.InstAt s.heap x (PySem.W.instObj C dx) C od) (first : PySem.W.selfFirst K C = true) (hl : PySem.W.findIn K (.ref C) "__mul__" = some (some (.ref f))) (hs : ∃ g : Addr, PySem.W.findIn K (.ref C) "__rmul__" = some (some (.ref g)) ∧ PySem.W.isFn K (.ref g) = true ∧
      wpAny (model prog w) A (call (.ref g) [.ref x, .int k t]) (PySem.W.CmpBack Q) E s)
    (hsub : PySem.W.subIn K (.ref C) (.type "int") = some false) : wpAny (model prog w) A (binaryOp .Mult (.int k t) (.ref x)) Q E s := by
  obtain ⟨g, hr, hf, h⟩ := hs
  obtain ⟨cd, rest, hcd, hm⟩ := PySem.W.ksp_first first
  have hg : s.heap.get? x = some (PySem.W.instObj C dx) := by
    exact I.at_
  have called := PySem.W.ksp_try X I hr hf h
  have d1 : PySem.W.Looks (model prog w) s.heap (typeOf (.ref x)) (.ref C) := I.type
  have d3 : PySem.W.Looks (model prog w) s.heap (fillsNumberSlot (.ref C) "mul") true := PySem.W.fills_K X hcd hm hl
  have d5 : PySem.W.Looks (model prog w) s.heap (isSubtype (.ref C) (.type "int")) false := PySem.W.looks_subIn X hsub
  clear X I hl hr hf h
  simp only [binaryOp]
  refine wpAny_holding (wpAny_bind ?_)
  show wpAny _ _ (binaryOp1 "mul" _ _) _ _ _
  simp only [binaryOp1]
  refine wpAny_bind (wpAny_typeOf (typeIs_int s k t) (wpAny_bind (d1.at (wpAny_bind (wpAny_of_eq F.fills_int_mul ?_)))))
  have hne : (Value.type "int" == Value.ref C) = false := Bool.eq_false_iff.mpr fun q => by cases beq_iff_eq.mp q
  simp only [hne, Bool.false_eq_true, if_false]
  refine wpAny_bind (d3.at ?_)
  simp only [Bool.and_self, if_true]
  refine wpAny_bind (d5.at ?_)
  have hpy : numberSlotInPython (.type "int") "mul" = pure false := rfl
  simp only [Bool.false_eq_true, if_false, pure_bind, Bool.not_false, Bool.and_self, if_true, hpy]
  refine wpAny_bind (try_declines hg ?_)
  refine wpAny_bind (wpAny_mono called (fun r s' z => ?_) fun _ _ e => e)
  obtain ⟨v, rfl, z⟩ := z
  exact wpAny_bind (wpAny_rule (wpAny_pure (wpAny_pure z)))
section
variable {X : Cx} {C : Addr} {k : Nat} {ps : List Str} {sp : Sp}
/-- k * o -/
def rMulR (C : Addr) (sp : Sp) : V → V → Hp → VK → Prop := fun x y H Q => ∃ p dx fs n, x = .int n ∧ y = .ref p ∧ H p = some (.ins C dx fs) ∧ sp [.ref p, .int n] H Q E0
theorem op_mulR (c : OwM X.prog X.w X.K X.mg X.base CX0 C "__rmul__" k ps sp) (first : PySem.W.selfFirst X.K C = true) (hl : ∃ f : Addr, PySem.W.findIn X.K (.ref C) "__mul__" = some (some (.ref f))) (hsub : PySem.W.subIn X.K (.ref C) (.type "int") = some false) (hr : Room k X.A) : OpR X (binaryOp .Mult) (rMulR C sp) := by
  intro pins s σ H x y u v Q I rx ry h
  obtain ⟨p, dx, fs, n, rfl, rfl, hp, hsp⟩ := h
  obtain ⟨f, fd, ok, hs, hf, _, hb⟩ := c.ex
  obtain ⟨fl, hfl⟩ := hl
  obtain ⟨od, J⟩ := inst_of I hp
  obtain ⟨t, rfl⟩ := id rx
  cases ry
  refine bin_right I.kIn J first hfl ⟨f, hs, hf, ?_⟩ hsub
  refine wpAny_mono (call_at (sub_self hr) ok hb I (vs := [.ref p, .int n]) (.cons rfl (.cons rx .nil)) hsp (fun e s' z => z.elim)) (fun u s' z => back_ep z) fun _ _ z => z
end
end Ow
namespace Ow
open PySem PySem.Spec PyProof.Rows L2 Bx TL Dx Zx ItX
/-! ### calls with defaults, new instances, methods, by their promises -/
structure CalD (P : Program) (w : World) (K : PySem.W.Frag) (mg : Str → Option Value) (base : Heap) (x : Str) (k : Nat) (ps : List Str) (sp : Sp) (dvs : List V) : Prop where
  ex : ∃ (f : Addr) (fd : FuncData) (ds : List Value), FnOk P w K mg base CX0 k f fd ps sp ∧ mg x = some (.ref f) ∧ PySem.W.keepIn K (.ref f) = true ∧ Binds K fd ps ds ∧ Vals dvs ds
structure MakC (P : Program) (w : World) (K : PySem.W.Frag) (mg : Str → Option Value) (base : Heap) (x : Str) (C : Addr) (k : Nat) (ps : List Str) (sp : Sp) (dvs : List V) : Prop where
  ex : ∃ (f : Addr) (fd : FuncData) (ds : List Value), Mk K C f ∧ FnOk P w K mg base CX0 k f fd ps sp ∧ mg x = some (.ref C) ∧ Binds K fd ps ds ∧ Vals dvs ds
structure MthC (P : Program) (w : World) (K : PySem.W.Frag) (mg : Str → Option Value) (base : Heap) (C : Addr) (m : Str) (k : Nat) (ps : List Str) (sp : Sp) : Prop where
  ex : ∃ (f : Addr) (fd : FuncData), Cls K C ∧ Meth K C m f ∧ FnOk P w K mg base CX0 k f fd ps sp ∧ Binds K fd ps []
section
variable {X : Cx} {x : Str} {k : Nat} {ps : List Str} {sp : Sp} {e : Expr} {es : List Expr} {t : TA} {p pos : Pos} {dvs : List V} {C : Addr}
theorem pe_calD (c : CalD X.prog X.w X.K X.mg X.base x k ps sp dvs) (hr : Room k X.A) (ha : PA X (e :: es) t) (hg : Gl X x := by rfl) (hdb : (x == ("__debug__" : Str)) = false := by decide)
    (he : starEach (e :: es) X.env = (false, eval e X.env) :: starEach es X.env := by rfl) (hpl : (backTo pos (starEach es X.env)).any (·.1) = false := by rfl) : PE X (.Call (.Name x p) (e :: es) [] pos) (tCall sp dvs E0 t) := by
  obtain ⟨f, fd, ds, ok, g, kp, b, r⟩ := c.ex
  exact pe_call (E := E0) ok hr hg g kp b r pass0 ha hdb he hpl (p := p)
theorem pe_mak (c : MakC X.prog X.w X.K X.mg X.base x C k ps sp []) (hr : Room (k + 1) X.A) (ha : PA X (e :: es) t) (hg : Gl X x := by rfl) (hdb : (x == ("__debug__" : Str)) = false := by decide)
    (he : starEach (e :: es) X.env = (false, eval e X.env) :: starEach es X.env := by rfl) (hpl : (backTo pos (starEach es X.env)).any (·.1) = false := by rfl) : PE X (.Call (.Name x p) (e :: es) [] pos) (tMake C sp [] E0 t) := by
  obtain ⟨f, fd, ds, M, ok, g, b, r⟩ := c.ex
  exact pe_make (E := E0) M ok hr hg g b r pass0 ha hdb he hpl (p := p)
theorem pe_mak0 (c : MakC X.prog X.w X.K X.mg X.base x C k ps sp dvs) (hr : Room (k + 1) X.A) (hg : Gl X x := by rfl) (hdb : (x == ("__debug__" : Str)) = false := by decide) : PE X (.Call (.Name x p) [] [] pos) (tMake C sp dvs E0 tNil) := by
  obtain ⟨f, fd, ds, M, ok, g, b, r⟩ := c.ex
  exact pe_make0 (E := E0) M ok hr hg g b r pass0 hdb (p := p)
theorem pe_mth {m : Str} {o : Expr} {to : TE} {apos : Pos} {pl : Sem Bool} (c : MthC X.prog X.w X.K X.mg X.base C m k ps sp) (hr : Room k X.A) (ho : PE X o to) (ha : PA X (e :: es) t)
    (hst : starEach (e :: es) X.env = (false, eval e X.env) :: starEach es X.env := by rfl) (hpl : (backTo pos (starEach es X.env)).any (·.1) = false := by rfl)
    (ht : eval (.Call (.Attribute o m apos) (e :: es) [] pos) X.env = (do
      let ov ← eval o X.env
      standAt apos.atName
      let (f, first) ← holding [ov] (getMethod ov m pl)
      callWith pos f first (backTo pos (starEach (e :: es) X.env)) (backToKw pos (keywordEach [] X.env))) := by rfl) : PE X (.Call (.Attribute o m apos) (e :: es) [] pos) (tMeth C m sp [] E0 to t) := by
  obtain ⟨f, fd, cl, mt, ok, b⟩ := c.ex
  exact pe_meth (E := E0) ho cl mt ok hr b .nil pass0 ha hst hpl ht
end
/-! ### // by any divisor -/
def CDivZ (_ j : Int) : Prop := j ≠ 0 ∧ j.natAbs.log2 < 9000
theorem op_fdivZ {X : Cx} : OpR X (binaryOp .FloorDiv) (rI CDivZ fun i j => .int (i.fdiv j)) := opI fun i j _ _ _ _ _ hc q => floordiv_int hc.1 q (.inl (PyProof.noPylong_of_log2 hc.2))
theorem wide_divZ {i j : Int} {b : Nat} (h : j ≠ 0) (hb : j.natAbs < 2 ^ b) (h0 : 0 < b) (h9 : b ≤ 9000) : CDivZ i j := ⟨h, Nat.lt_of_lt_of_le (PySem.Flt.log2_lt_of h0 hb) h9⟩
end Ow
/-! Calls that may raise, with a wish that knows the slots: C(..), o.m(..), f(..); C held by a local; list.count of texts. -/
namespace Px
open PySem PySem.Spec PyProof.Rows L2 Bx TL Dx Zx Ow
theorem passN {X : Cx} : Passes (L2.CX X.prog X.w) X E0 := fun _ _ _ _ _ _ _ ⟨_, _, _, _, _, _, _, _, _, _, _, _, z⟩ => z.elim
/-- `C(..)`, whose `__init__` may raise -/
structure MakX (P : Program) (w : World) (K : PySem.W.Frag) (mg : Str → Option Value) (base : Heap) (x : Str) (C : Addr) (k : Nat) (ps : List Str) (sp : Sp) : Prop where
  ex : ∃ (f : Addr) (fd : FuncData), Mk K C f ∧ FnOk P w K mg base (L2.CX P w) k f fd ps sp ∧ mg x = some (.ref C) ∧ Binds K fd ps []
structure MthX (P : Program) (w : World) (K : PySem.W.Frag) (mg : Str → Option Value) (base : Heap) (C : Addr) (m : Str) (k : Nat) (ps : List Str) (sp : Sp) : Prop where
  ex : ∃ (f : Addr) (fd : FuncData), Cls K C ∧ Meth K C m f ∧ FnOk P w K mg base (L2.CX P w) k f fd ps sp ∧ Binds K fd ps []
structure CalE (P : Program) (w : World) (K : PySem.W.Frag) (mg : Str → Option Value) (base : Heap) (x : Str) (k : Nat) (ps : List Str) (sp : Sp) : Prop where
  ex : ∃ (f : Addr) (fd : FuncData), FnOk P w K mg base (L2.CX P w) k f fd ps sp ∧ mg x = some (.ref f) ∧ PySem.W.keepIn K (.ref f) = true ∧ Binds K fd ps []
section
variable {X : Cx} {x : Str} {k : Nat} {ps : List Str} {sp : Sp} {e : Expr} {es : List Expr} {t : TA} {p pos : Pos} {C : Addr} {W : WX}
theorem run_makS {pins : List (Addr × Obj)} {σ : L2.St} {H : Hp} {s : Shared} {Q : VK} {E : XK} {us : List Value} {vs : List V} {f : Addr} {fd : FuncData} (M : Mk X.K C f) (F : FnOk X.prog X.w X.K X.mg X.base (L2.CX X.prog X.w) k f fd ps sp) (hr : Room (k + 1) X.A) (b : Binds X.K fd ps [])
    (hx : PassesAt (L2.CX X.prog X.w) X σ E) (I : Inv X pins σ H s) (rv : Vals vs us) (h : ∀ y dy, H y = none → H dy = none → dy ≠ y → sp (.ref y :: vs) (upd (upd H dy (.own y)) y (.ins C dy [])) (fun v G => v = .non ∧ Q (.ref y) G) E) :
    wpAny (model X.prog X.w) X.A (call (.ref C) us) (EP X pins σ Q) X.xe s := by
  have n1 := I.hok.fresh (Nat.le_refl s.heap.objs.size)
  have n2 := I.hok.fresh (Nat.le_succ s.heap.objs.size)
  have g := h _ _ n2 n1 (Nat.ne_of_lt (Nat.lt_succ_self s.heap.objs.size))
  have J := Inv.made (C := C) I
  have rs : Vals (V.ref (s.heap.objs.size + 1) :: vs) (Value.ref (s.heap.objs.size + 1) :: us) := .cons rfl rv
  have ln : (Value.ref (s.heap.objs.size + 1) :: us).length = ps.length := rs.length.symm.trans (F.len _ _ _ _ g)
  have bd := b _ (Value.ref (s.heap.objs.size + 1) :: us) J.kIn (by rw [List.append_nil]; exact ln)
  rw [List.append_nil] at bd
  refine wpAny_call (make_map (f := f) I.kIn M.makes M.init (beq_iff_eq.mp M.fn) (codeAny_mono (F.run _ X.stack _ _ _ _ _ _ E (hr.make C us []) (J.env0.make C us []) bd rs g) fun res s' back => ?_))
  match res, back with
  | .error er, back => exact hx pins _ _ er s' J back
  | .ok (.ret u), back =>
    obtain ⟨v, G, J2, r2, e2, q⟩ := J.after back
    subst e2
    exact ⟨r2, .ref (s.heap.objs.size + 1), G, J2, rfl, q⟩
  | .ok .next, back => exact back.elim
  | .ok .brk, back => exact back.elim
  | .ok .cont, back => exact back.elim
def tMakX (C : Addr) (sp : Sp) (W : WX) (t : TA) : TE := fun σ H Q => t σ H fun vs H1 => ∀ y dy, H1 y = none → H1 dy = none → dy ≠ y → sp (.ref y :: vs) (upd (upd H1 dy (.own y)) y (.ins C dy [])) (fun v G => v = .non ∧ Q (.ref y) G) (WE W σ)
theorem pe_makX (c : MakX X.prog X.w X.K X.mg X.base x C k ps sp) (tk : Takes X W) (hr : Room (k + 1) X.A) (ha : PA X (e :: es) t) (hg : Gl X x := by rfl) (hdb : (x == ("__debug__" : Str)) = false := by decide)
    (he : starEach (e :: es) X.env = (false, eval e X.env) :: starEach es X.env := by rfl) (hpl : (backTo pos (starEach es X.env)).any (·.1) = false := by rfl) : PE X (.Call (.Name x p) (e :: es) [] pos) (tMakX C sp W t) := by
  obtain ⟨f, fd, M, ok, g, b⟩ := c.ex
  refine ⟨fun pins s σ H Q I h => wpAny_Call_Name_kw (ld_glob I hg g ?_ hdb)⟩
  exact PySem.W.callWith_K (h₀ := X.base) I.ok.mod.kin M.kp (thn (ha.run pos pins s σ H _ I h) fun us s1 ⟨vs, H1, I1, rv, q⟩ => ⟨I1.kIn, run_makS M ok hr b (passAt tk σ) I1 rv q⟩) he hpl
theorem pe_makN (c : MakX X.prog X.w X.K X.mg X.base x C k ps sp) (hr : Room (k + 1) X.A) (ha : PA X (e :: es) t) (hg : Gl X x := by rfl) (hdb : (x == ("__debug__" : Str)) = false := by decide)
    (he : starEach (e :: es) X.env = (false, eval e X.env) :: starEach es X.env := by rfl) (hpl : (backTo pos (starEach es X.env)).any (·.1) = false := by rfl) : PE X (.Call (.Name x p) (e :: es) [] pos) (tMake C sp [] E0 t) := by
  obtain ⟨f, fd, M, ok, g, b⟩ := c.ex
  exact pe_make (E := E0) M ok hr hg g b .nil passN ha hdb he hpl (p := p)
/-- the class in a slot: `cls(..)` -/
def tMakL (i : Nat) (C : Addr) (sp : Sp) (t : TA) : TE := fun σ H Q => σ[i]? = some (some (.ref C)) ∧ tMake C sp [] E0 t σ H Q
theorem pe_makL {i : Nat} {y : Str} (c : MakX X.prog X.w X.K X.mg X.base x C k ps sp) (hr : Room (k + 1) X.A) (hN : X.N[i]? = some y) (hv : Vis X.env.scope y) (ha : PA X (e :: es) t) (hdb : (y == ("__debug__" : Str)) = false := by decide) (hcd : (y == ("__classdict__" : Str)) = false := by decide)
    (he : starEach (e :: es) X.env = (false, eval e X.env) :: starEach es X.env := by rfl) (hpl : (backTo pos (starEach es X.env)).any (·.1) = false := by rfl) : PE X (.Call (.Name y p) (e :: es) [] pos) (tMakL i C sp t) := by
  obtain ⟨f, fd, M, ok, g, b⟩ := c.ex
  refine ⟨fun pins s σ H Q I h => ?_⟩
  obtain ⟨h1, h2⟩ := h
  refine wpAny_Call_Name_kw (thn ((pe_var (pos := p) hN hv hdb hcd).run pins s σ H (fun v G => v = .ref C ∧ G = H) I ⟨.ref C, h1, rfl, rfl⟩) fun u s1 ⟨v, G, I1, r1, q1⟩ => ?_)
  obtain ⟨rfl, rfl⟩ := q1
  cases r1
  exact PySem.W.callWith_K (h₀ := X.base) I.ok.mod.kin M.kp (thn (ha.run pos pins s1 σ _ _ I1 h2) fun us s2 ⟨vs, H2, I2, rv, q⟩ => ⟨I2.kIn, run_make M ok hr b .nil passN I2 rv q⟩) he hpl
def tMthX (C : Addr) (m : Str) (sp : Sp) (W : WX) (ta : TE) (t : TA) : TE := fun σ H Q => ta σ H fun v H1 => ∃ a dx fs, v = .ref a ∧ H1 a = some (.ins C dx fs) ∧ fs.lookup m = none ∧ t σ H1 fun vs H2 => sp (v :: vs) H2 Q (WE W σ)
theorem pe_mthX {m : Str} {o : Expr} {to : TE} {apos : Pos} {pl : Sem Bool} (c : MthX X.prog X.w X.K X.mg X.base C m k ps sp) (tk : Takes X W) (hr : Room k X.A) (ho : PE X o to) (ha : PA X (e :: es) t)
    (hst : starEach (e :: es) X.env = (false, eval e X.env) :: starEach es X.env := by rfl) (hpl : (backTo pos (starEach es X.env)).any (·.1) = false := by rfl)
    (ht : eval (.Call (.Attribute o m apos) (e :: es) [] pos) X.env = (do
      let ov ← eval o X.env
      standAt apos.atName
      let (f, first) ← holding [ov] (getMethod ov m pl)
      callWith pos f first (backTo pos (starEach (e :: es) X.env)) (backToKw pos (keywordEach [] X.env))) := by rfl) : PE X (.Call (.Attribute o m apos) (e :: es) [] pos) (tMthX C m sp W to t) := by
  obtain ⟨f, fd, cl, mt, ok, b⟩ := c.ex
  refine ⟨fun pins s σ H Q I h => PySem.W.methodCall_KW (pl := pl) (thn (ho.run pins s σ H _ I h) fun u s1 ⟨v, H1, I1, rx, a, dx, fs, ev, ea, l, q⟩ => ?_) ht⟩
  subst ev
  cases rx
  refine getmeth_ok I1 ea cl mt l (PySem.W.callWith_K (first := [.ref a]) (h₀ := X.base) I.ok.mod.kin mt.kp (thn (ha.run pos pins s1 σ H1 _ I1 q) fun us s2 ⟨vs, H2, I2, rv, q2⟩ => ⟨I2.kIn, ?_⟩) hst hpl)
  exact run_fnS (E := fun σ => WE W σ) (us := .ref a :: us) (vs := .ref a :: vs) ok hr b (passAt tk σ) I2 (.cons rfl rv) q2
theorem pe_calE (c : CalE X.prog X.w X.K X.mg X.base x k ps sp) (tk : Takes X W) (hr : Room k X.A) (ha : PA X (e :: es) t) (hg : Gl X x := by rfl) (hdb : (x == ("__debug__" : Str)) = false := by decide)
    (he : starEach (e :: es) X.env = (false, eval e X.env) :: starEach es X.env := by rfl) (hpl : (backTo pos (starEach es X.env)).any (·.1) = false := by rfl) : PE X (.Call (.Name x p) (e :: es) [] pos) (tCallS sp (fun σ => WE W σ) t) := by
  obtain ⟨f, fd, ok, g, kp, b⟩ := c.ex
  exact pe_callS ok hr hg g kp b (fun σ => passAt tk σ) ha hdb he hpl (p := p)
end
/-! ### xs.count(x) of texts -/
section
variable {X : Cx}
def rCntS (K : PySem.W.Frag) : V → List V → Hp → VK → Prop := fun x xs H Q => ∃ (p : Addr) (ns : List Str) (z : Str), x = .ref p ∧ xs = [.str z] ∧ SqL K H p (ns.map V.str) ∧ Q (.int (ns.count z : Nat)) H
theorem plain_strs : ∀ ns : List Str, PyData.plainAll (ns.map PyData.str) = true
  | [] => rfl
  | n :: ns => by
    show (PyData.plain (PyData.str n) && PyData.plainAll (ns.map PyData.str)) = true
    rw [plain_strs ns]
    rfl
theorem depth_strs : ∀ ns : List Str, PyData.depthAll (ns.map PyData.str) ≤ 1
  | [] => Nat.zero_le 1
  | n :: ns => by
    show max (PyData.depth (PyData.str n)) (PyData.depthAll (ns.map PyData.str)) ≤ 1
    exact Nat.max_le.mpr ⟨by show 0 ≤ 1; omega, depth_strs ns⟩
theorem cnt_strs (z : Str) : ∀ ns : List Str, (ns.map PyData.str).countP (fun y => PyData.eqv y (.str z)) = ns.count z
  | [] => rfl
  | n :: ns => by
    rw [List.map_cons, List.countP_cons, List.count_cons, cnt_strs z ns]
    rfl
theorem mt_lcountS (hu : X.A.units + 65 < cLine) : MtR X "list.count" (rCntS X.K) := by
  intro pins s σ H x xs v us Q I rx rxs h
  obtain ⟨p, ns, z, rfl, rfl, hs, q⟩ := h
  cases rx
  obtain ⟨u, rfl, ru⟩ := rxs.one
  obtain ⟨t, rfl⟩ := ru
  obtain ⟨its, rv, pl, _⟩ := I.list hs
  obtain ⟨as, ra⟩ := Dp.readsAll I _ _ its (dp_strs ns) rv
  refine SeqAt.count_list_data pl.isList (by simpa using ra) (Reads.str z t) (plain_strs ns) rfl ?_ ?_
  · have := depth_strs ns
    have := Nat.min_le_left (PyData.depthAll (ns.map PyData.str)) (PyData.depth (.str z))
    omega
  · rw [cnt_strs]
    exact ⟨.int (ns.count z : Nat), H, I.tok _, ⟨s.toks, rfl⟩, q⟩
end
end Px
set_option maxHeartbeats 4000000
/-! t * k for any k from 0 on, t a tuple with items. -/
namespace Px
open PySem PySem.Spec PyProof.Rows L2 Bx TL Dx Zx Ow
theorem mul_one (l : Addr) (its : Array Value) (n : Nat) (dd : Option Addr) (sl : Array (Option Value)) (u : Tok) :
    Meets (Builtin.«tuple.__mul__» ⟨[.ref l, .int 1 u], []⟩) (fun _ R s => s.heap.get? l = some { cls := .type "tuple", dict := dd, data := .seq its n, slots := sl } ∧ R (.ok (.ret (.ref l))) s) :=
  .of_wp fun prog w A R s h => by
    obtain ⟨hp, g, d, tk, os⟩ := s
    obtain ⟨hl, h⟩ := h
    have f1 := AutoSeq1.idx_int
    have c1 : (its.isEmpty || (1 : Int) == 1) = true := by rw [show ((1 : Int) == 1) = true from rfl, Bool.or_true]
    wp_walk using wpAny_loadPart' hl
    repeat (first
      | (refine wpAny_ite_true (decide_eq_true c1) ?_; wp_walk using wpAny_loadPart' hl)
      | (refine wpAny_ite_false (by decide) ?_; wp_walk using wpAny_loadPart' hl))
    exact ⟨_, rfl, h⟩
theorem mul_nil (l : Addr) (its : Array Value) (n : Nat) (dd : Option Addr) (sl : Array (Option Value)) (u : Tok) (hi : its.isEmpty = false) :
    Meets (Builtin.«tuple.__mul__» ⟨[.ref l, .int 0 u], []⟩) (fun _ R s => s.heap.get? l = some { cls := .type "tuple", dict := dd, data := .seq its n, slots := sl } ∧
      R (.ok (.ret (Value.ref s.heap.objs.size))) { s with heap := s.heap.push { cls := Value.type "tuple", data := Data.seq #[] }, toks := s.toks }) :=
  .of_wp fun prog w A R s h => by
    obtain ⟨hp, g, d, tk, os⟩ := s
    obtain ⟨hl, h⟩ := h
    have f1 := AutoSeq1.idx_int
    have c1 : (its.isEmpty || (0 : Int) == 1) = false := by rw [hi]; rfl
    wp_walk using wpAny_loadPart' hl
    repeat (first
      | (refine wpAny_ite_false (decide_eq_false (by rw [c1]; exact Bool.false_ne_true)) ?_; wp_walk using wpAny_loadPart' hl)
      | (refine wpAny_ite_true (by decide) ?_; wp_walk using wpAny_loadPart' hl)
      | (refine wpAny_ite_false (by decide) ?_; wp_walk using wpAny_loadPart' hl))
    exact ⟨_, rfl, h⟩
def rRepA (K : PySem.W.Frag) : R2 := fun x y H Q => ∃ (l : Addr) (k : Nat) (xs : List V), x = .ref l ∧ y = .int (k : Int) ∧ SqT K H l xs ∧ xs ≠ [] ∧ k ≤ 1000 ∧ xs.length ≤ 1000 ∧ (k = 1 → Q (.ref l) H) ∧ (k ≠ 1 → ∀ p, H p = none → Q (.ref p) (upd H p (.tup (List.replicate k xs).flatten)))
theorem op_repA {X : Cx} : OpR X (binaryOp .Mult) (rRepA X.K) := by
  intro pins s σ H x y v u Q I rx ry h
  obtain ⟨l, k, xs, rfl, rfl, hT, hne, hk, hx, q1, q2⟩ := h
  by_cases h2 : 2 ≤ k
  · exact op_repT pins s σ H _ _ v u Q I rx ry ⟨l, (k : Int), xs, rfl, rfl, hT, hne, by omega, by omega, hx, fun p np => q2 (by omega) p np⟩
  · cases rx
    obtain ⟨t, rfl⟩ := ry
    obtain ⟨its, rv, ⟨⟨cls, dd, data, sl⟩, ho, hc, n, hd⟩, hsz⟩ := I.tuple hT
    simp only at hc hd
    subst hc hd
    have hi : its.toArray.isEmpty = false := by
      cases its with
      | nil =>
        cases rv
        exact absurd rfl hne
      | cons a b => rfl
    have hT2 : s.TypeIs (.ref l) "tuple" := ⟨_, ho, rfl⟩
    have go : ∀ {Z : Value → Shared → Prop} {D : Value → Shared → Prop}, wpAny (model X.prog X.w) X.A (call (.builtin "tuple.__mul__") [.ref l, .int (k : Int) t]) Z D s → wpAny (model X.prog X.w) X.A (binaryOp .Mult (.ref l) (.int (k : Int) t)) Z D s := fun {Z D} z =>
      wpAny_binaryOp_repeat_ref (T := "tuple") (U := "int") (by decide) hT2 (fun z => typeIs_int z (k : Int) t) noFill_tuple_mul F.fills_int_mul F.slot_int_rmul repeat_tuple F.slot_int_index.lookup
        (call_meets F.slot_int_rmul (typeIs_int s (k : Int) t) F.entry_int_rmul (F.args_int_rmul_2 _ _) (int_rmul_tuple (k : Int) t l its.toArray n dd sl) ⟨ho, rfl, hT2, z⟩)
    refine go ?_
    rcases (show k = 0 ∨ k = 1 by omega) with rfl | rfl
    · refine call_meets F.slot_tuple_mul hT2 F.entry_tuple_mul (F.args_tuple_mul_2 _ _) (mul_nil l its.toArray n dd sl t hi) ⟨ho, ?_⟩
      exact ⟨.ref s.heap.objs.size, _, I.laid (t' := s.toks) (o := .tup []) (fun b ob q => Heap.get?_push_of_some _ q) (Nat.le_refl _) ⟨Nat.zero_le _, [], .nil, IsTup.new _ _⟩, rfl, q2 (by omega) _ (I.hok.fresh (Nat.le_refl _))⟩
    · exact call_meets F.slot_tuple_mul hT2 F.entry_tuple_mul (F.args_tuple_mul_2 _ _) (mul_one l its.toArray n dd sl t) ⟨ho, .ref l, H, I, rfl, q1 rfl⟩
end Px
/-! try with several clauses, each of which names the error by the same name. -/
namespace Px
open PySem PySem.Spec PyProof.Rows L2 Bx TL Dx Zx Ow
abbrev Cl := Value × (Addr → Value → Option Addr → TS)
/-- the ends of a suite behind which slot i is taken away -/
def gone (i : Nat) (D : Ends) : Ends := { nx := fun σ H => D.nx (σ.set i none) H, rt := D.rt, bk := fun σ H => D.bk (σ.set i none) H, ct := fun σ H => D.ct (σ.set i none) H }
def wAsM (K : PySem.W.Frag) (i : Nat) (W0 : WX) (D : Ends) : List Cl → WX
  | [] => W0
  | c :: r => fun cls d σ H => ∃ b, PySem.W.exmOne K cls c.1 = some b ∧ (b = true → ∀ a, H a = none → c.2 a cls d (gone i D) (σ.set i (some (.ref a))) H) ∧ (b = false → wAsM K i W0 D r cls d σ H)
inductive HdA (X : Cx) (n : Str) : List ExceptHandler → List Cl → Prop
  | nil : HdA X n [] []
  | cons {x : Str} {c : Cl} {b0 : Stmt} {bs : List Stmt} {p1 p2 : Pos} {hs : List ExceptHandler} {l : List Cl} (nm : Names X x c.1)
      (su : ∀ (a : Addr) (o : Obj) (cls : Value) (d : Option Addr) (pn : List (Addr × Obj)), Zc cls d o → (∃ vs, o.data = .fields vs) → PSs (X.suite a ((a, o) :: pn)) (b0 :: bs) (c.2 a cls d)) (r : HdA X n hs l) :
      HdA X n (.ExceptHandler (some (.Name x p1)) (some n) (b0 :: bs) p2 :: hs) (c :: l)
section
variable {X : Cx} {n : Str} {i : Nat} {body : List Stmt} {h0 : ExceptHandler} {hs : List ExceptHandler} {l : List Cl} {pos : Pos} {tb : WX → TS} {W0 : WX}
theorem ps_tryA (hst : X.stack = X.env :: X.outer) (hfr : X.env.frame = some X.env.locals) (nd : X.N.Nodup) (hi : X.N[i]? = some n) (loc : X.env.kindOf n = some .local) (tk : Takes X W0)
    (hb : ∀ (W : WX) (pn : List (Addr × Obj)) (xe : Value → Shared → Prop), Takes (X.tr pn xe) W → PassesOwn (model X.prog X.w) X.A X.env xe → PSs (X.tr pn xe) body (tb W)) (hh : HdA X n (h0 :: hs) l) :
    PS X (.Try body (h0 :: hs) [] [] pos) (fun D σ H => tb (wAsM X.K i W0 D l) D σ H) := by
  refine ⟨fun pins s σ H D I h => wpAny_Try_except ?_⟩
  have ok := I.ok
  have fr2 : X.A.frames = some (X.env :: X.outer) := by rw [ok.frames, hst]
  refine wpAny_mono ((hb (wAsM X.K i W0 D l) (X.pn ++ pins) (fun e t1 => wpAny (model X.prog X.w) X.A (noteFrame e X.env) (fun _ t2 => wpAny (model X.prog X.w) X.A (setFlight e none) (fun _ t3 => wpAny (model X.prog X.w) X.A (handleBy e X.env (h0 :: hs)) (SP X pins D) X.xe t3) X.xe t2) X.xe t1)
    (fun er s' got => ?_) PassesOwn.looking).run [] s σ H D (I.toTry _) h) (fun fl s1 hsp => ?_) (fun er s1 he => he)
  · obtain ⟨a, B, sI, pins2, τ, G, cls, d, rfl, J0, nb, up, sky, na, os, ag, wish⟩ := got
    have J : Inv X pins τ G sI := J0.ofTry ok
    have sk2 : Sky B (X.env :: X.outer) a (Zc cls d) X.env.locals s'.heap := by rw [← hst]; exact sky
    show wpAny (model X.prog X.w) X.A (noteFrame (.ref a) X.env) _ _ _
    refine Sky.land Zc.steady fr2 hfr sk2 fun h3 fl3 up3 => ?_
    have J3 : Inv X pins τ G { s' with heap := h3 } := J.landed nb fl3.1 (up.trans up3) os ag
    obtain ⟨o3, v3, ho3, hz3, hd3⟩ := fl3.there
    have out : a ∉ frs (X.env :: X.outer) := fun hm => by
      obtain ⟨_, o2, ho2, no⟩ := fl3.2.2.1.mem hm
      rw [ho3] at ho2
      cases ho2
      exact no _ hd3
    have nL : a ≠ X.env.locals := fun z => out (List.mem_filterMap.mpr ⟨X.env, List.mem_cons_self, hfr.trans (congrArg some z.symm)⟩)
    have nF : a ∉ X.fs := fun hm => by
      obtain ⟨e, he, q⟩ := List.mem_filterMap.mp hm
      exact out (List.mem_filterMap.mpr ⟨e, List.mem_cons_of_mem _ he, q⟩)
    have S3 := J3.suite ho3 hd3 na nL nF
    have go : ∀ {hs2 : List ExceptHandler} {l2 : List Cl}, HdA X n hs2 l2 → wAsM X.K i W0 D l2 cls d τ G → wpAny (model X.prog X.w) X.A (handleBy (.ref a) X.env hs2) (SP X pins D) X.xe { s' with heap := h3 } := by
      intro hs2 l2 hk
      induction hk with
      | nil =>
        intro wish
        refine wpAny_handleBy_nil ?_
        obtain ⟨_, _, _, o4, v4, T, _, _, ho4, _, hd4, hT, _⟩ := id fl3
        unfold PySem.passOn
        refine wpAny_bind (wpAny_field ho4 hd4 hT ?_)
        rw [if_neg (show ¬ ((Value.ref T == Value.none) = true) from Bool.false_ne_true)]
        have last : wpAny (model X.prog X.w) X.A (setFlight (.ref a) X.env.frame) (fun _ t => wpAny (model X.prog X.w) X.A (throw (.ref a) : Sem Flow) (SP X pins D) X.xe t) X.xe { s' with heap := h3 } := by
          rw [hfr]
          refine HandSPX.setFlight_upZ fl3 fun h4 hh4 up4 => wpAny_throw (tk _ _ ⟨a, B, sI, pins, τ, G, cls, d, rfl, J, nb, (up.trans up3).trans up4, .inr (.inr ?_), na, os, ag, wish⟩)
          rw [hst]
          exact hh4
        first
          | exact wpAny_bind (wpAny_pure (wpAny_bind last))
          | exact wpAny_bind last
      | @cons x c b0 bs p1 p2 hs3 l3 nm su r ih =>
        intro wish
        obtain ⟨b, eb, yes, no⟩ := wish
        refine wpAny_handleBy_cons (codeAny_handlers_test ?_) (by intro q; cases q)
        have LT : PySem.W.Looks (model X.prog X.w) h3 (typeOf (.ref a)) cls := fun A Q E t k q => wpAny_typeOf_ref (k _ _ ho3) (by rw [hz3.1]; exact q)
        have LM := PySem.W.exm_one (M := model X.prog X.w) J3.kIn LT eb
        have look : ∀ {Q : Value → Shared → Prop} {E : Value → Shared → Prop}, Q c.1 { s' with heap := h3 } → wpAny (model X.prog X.w) (X.A.mark (some (.ref a))) (eval (.Name x p1) X.env) Q E { s' with heap := h3 } := fun {Q E} q => by
          obtain ⟨hg, hdb, hm | ⟨hm, hv, hnn⟩⟩ := nm
          · exact ld_glob (X := X.suite a ((a, o3) :: (X.pn ++ pins))) S3 hg hm q hdb
          · exact ld_blt (X := X.suite a ((a, o3) :: (X.pn ++ pins))) S3 hg hm hv q hnn hdb
        refine look (LM.here ?_)
        cases b with
        | false =>
          show wpAny _ X.A (handleBy (.ref a) X.env hs3) _ _ _
          exact ih (no rfl)
        | true =>
          refine codeAny_handlers_suite_as (HandSPX.lands_againZ fl3 fun h4 fl4 up4 => ?_)
          have J4 : Inv X pins τ G { s' with heap := h4 } := J.landed nb fl4.1 ((up.trans up3).trans up4) os ag
          obtain ⟨o4, v4, ho4, hz4, hd4⟩ := fl4.there
          refine store_ok (X := X.suite a ((a, o4) :: (X.pn ++ pins))) (v := .ref a) (J4.suite ho4 hd4 na nL nF) nd hi (.inl loc) rfl (fun s5 S5 => ?_) (.inr loc)
          refine wpAny_mono ((su a o4 cls d (X.pn ++ pins) hz4 ⟨_, hd4⟩).run [] s5 _ G _ S5 (yes rfl a na)) (fun fl s6 hsp => ?_) (fun _ _ z => False.elim z)
          have out6 : ∀ {ρ : L2.St} {H6 : Hp} {Q : Shared → Prop}, Inv (X.suite a ((a, o4) :: (X.pn ++ pins))) [] ρ H6 s6 → (∀ s7, Inv X pins (ρ.set i none) H6 s7 → Q s7) → wpAny (model X.prog X.w) X.A (do bindName X.env n .none; unbindBehindTheSuite X.env n p2) (fun _ s7 => Q s7) X.xe s6 :=
            fun S6 hq => gone_ok (S6.unsuite ok) nd hi loc hq
          match fl, hsp with
          | .next, ⟨ρ, H6, S6, q⟩ => exact out6 S6 fun s7 J7 => ⟨_, _, J7, q⟩
          | .brk, ⟨ρ, H6, S6, q⟩ => exact out6 S6 fun s7 J7 => ⟨_, _, J7, q⟩
          | .cont, ⟨ρ, H6, S6, q⟩ => exact out6 S6 fun s7 J7 => ⟨_, _, J7, q⟩
          | .ret u, ⟨v6, ρ, H6, S6, r6, q⟩ => exact out6 S6 fun s7 J7 => ⟨_, _, _, J7, r6, q⟩
    exact go hh wish
  · match fl, hsp with
    | .next, ⟨ρ, G, J, q⟩ => exact wpAny_execs_nil ⟨ρ, G, J.ofTry ok, q⟩
    | .brk, ⟨ρ, G, J, q⟩ => exact ⟨ρ, G, J.ofTry ok, q⟩
    | .cont, ⟨ρ, G, J, q⟩ => exact ⟨ρ, G, J.ofTry ok, q⟩
    | .ret u, ⟨v, ρ, G, J, rv, q⟩ => exact ⟨v, ρ, G, J.ofTry ok, rv, q⟩
end
end Px
/-! list(o), o of an own class with `__iter__` over a tuple and `__len__`. -/
namespace Px
open PySem PySem.Spec PyProof.Rows L2 Bx TL Dx Zx Ow
section
variable {X : Cx} {pins : List (Addr × Obj)} {σ : L2.St} {H : Hp} {s : Shared} {C p dx : Addr} {fs : List (Str × V)} {k : Nat} {ps : List Str} {sp : Sp} {A1 : Around} {E1 : Value → Shared → Prop}
theorem len_at {Q : Value → Shared → Prop} (sb : Sub X (k + 1) A1) (c : OwM X.prog X.w X.K X.mg X.base CX0 C "__len__" k ps sp) (I : Inv X pins σ H s) (ha : H p = some (.ins C dx fs)) (hsp : sp [.ref p] H (fun v G => G = H ∧ ∃ n : Nat, v = .int (n : Int) ∧ n ≤ 1000) E0)
    (q : ∀ (n : Nat) t s', n ≤ 1000 → Inv X pins σ H s' → Q (.int (n : Int) t) s') : wpAny (model X.prog X.w) A1 (call (.builtin "len") [.ref p]) Q E1 s := by
  obtain ⟨f, fd, ok, hs, hf, _, hb⟩ := c.ex
  obtain ⟨od, J⟩ := inst_of I ha
  obtain ⟨m, hF⟩ := I.fr
  refine PySem.W.len_K hF I.ok.mod.kin J hs hf ?_
  refine wpAny_mono (call_at sb.in1 ok hb I (vs := [.ref p]) (.cons rfl .nil) hsp (fun e s' z => z.elim)) (fun u s' hu => ?_) (fun _ _ z => z)
  obtain ⟨v, G, I', rv, rfl, n, rfl, hn⟩ := hu
  obtain ⟨t, rfl⟩ := rv
  exact ⟨⟨by omega, by omega⟩, q n _ _ hn (I'.tok _)⟩
theorem hint_own {Q : Bool → Shared → Prop} (sb : Sub X (k + 1) A1) (c : OwM X.prog X.w X.K X.mg X.base CX0 C "__len__" k ps sp) (I : Inv X pins σ H s) (ha : H p = some (.ins C dx fs)) (hsp : sp [.ref p] H (fun v G => G = H ∧ ∃ n : Nat, v = .int (n : Int) ∧ n ≤ 1000) E0)
    (q : ∀ b s', Inv X pins σ H s' → Q b s') : wpAny (model X.prog X.w) A1 (Builtin.List.listLengthHint (.ref p)) Q E1 s := by
  obtain ⟨f, fd, ok, hs, hf, _, hb⟩ := id c.ex
  obtain ⟨od, J⟩ := inst_of I ha
  unfold Builtin.List.listLengthHint
  refine wpAny_bind (wpAny_bind (J.type.here ((PySem.W.looks_findIn I.kIn hs).here ?_)))
  refine PySem.W.KFB.if_not rfl ?_
  show wpAny _ _ (rule _ >>= _) _ _ _
  refine wpAny_bind (wpAny_rule ?_)
  refine wpAny_bind (wpAny_attempt (len_at sb c I ha hsp fun n t s' hn I' => ?_))
  show wpAny _ _ (asInt? (Value.int (n : Int) t) >>= _) _ _ _
  refine wpAny_bind (wpAny_pure ?_)
  refine PySem.W.KFB.if_not ?_ (wpAny_pure (q _ s' I'))
  show decide ((n : Int).toNat > sizeLine) = false
  rw [sizeLine_eq]
  exact decide_eq_false (by omega)
/-- the iterator of o, where `__iter__` gives iter(self.f) -/
theorem iter_at {f : Str} {t : Addr} {zs : List V} {Q : Value → Shared → Prop} (sb : Sub X k A1) (c : ItM X.prog X.w X.K X.mg X.base C f k) (I : Inv X pins σ H s) (ha : H p = some (.ins C dx fs)) (hl : fs.lookup f = some (.ref t)) (hz : SqT X.K H t zs)
    (q : ∀ it s', Inv X pins σ H s' → s'.heap.IsTupleIter it t 0 → FpOk X pins H it → Q (.ref it) s') : wpAny (model X.prog X.w) A1 (pyIter (.ref p)) Q E1 s := by
  obtain ⟨fi, hfi, hf, go⟩ := c.ex
  obtain ⟨od, J⟩ := inst_of I ha
  obtain ⟨m, hF⟩ := I.fr
  refine PySem.W.owit_iter hF I.ok.mod.kin J hfi hf ?_
  have z0 := I.env0
  have e0 : Env0 X.prog X.w X.K X.mg X.base A1 X.stack s H := ⟨by rw [sb.fr]; exact z0.frames, z0.mod, z0.bs, z0.bsz, z0.funs, z0.frf, z0.hok, z0.bare⟩
  refine wpAny_call (codeAny_mono (go A1 X.stack s H E0 p dx t fs zs sb.room e0 ha hl hz) fun res s' back => ?_)
  match res, back with
  | .error e, back => exact back.elim
  | .ok .next, back => exact back.elim
  | .ok .brk, back => exact back.elim
  | .ok .cont, back => exact back.elim
  | .ok (.ret u), back =>
    obtain ⟨v, G, I2, rv, it, rfl, n1, hy, rfl⟩ := I.after back
    cases rv
    have e2 : upd H it (TiO t it) it = some (TiO t it) := upd_same
    have hit : s'.heap.IsTupleIter it t 0 := by
      have : ObjOk X.prog X.w (upd H it (TiO t it)) s'.heap it (.ext fun h => h.IsTupleIter it t 0) := I2.hok it _ e2
      exact this.1
    show wpAny _ _ (specialOf (.ref it) "__next__") _ _ _
    refine wpAny_specialOf (name := Str.ofString "__next__") hit.typeIs PySem.F.slot_tuple_iterator_next.lookup ?_
    have I3 := ItX.inv_drop I2 e2
    have fp := ItX.inv_fp I2 e2 (Nat.le_trans I.sz hy)
    rw [ItX.dropH_upd n1] at I3 fp
    exact q it s' I3 hit fp
theorem ext_loop {L it t : Addr} {zs : List V} {Rs : Result → Shared → Prop} (hc : X.calm = true) (hL : H L = some (.lst [])) (hz : SqT X.K H t zs) (hzl : zs.length ≤ 1000) (fp : FpOk X pins H it)
    (done : ∀ s', Inv X pins σ (upd H L (.lst zs)) s' → Rs (.ok (.ret .none)) s') :
    ∀ (m i : Nat) (s : Shared), zs.length - i = m → i ≤ zs.length → Inv X pins σ (upd H L (.lst (zs.take i))) s → s.heap.IsTupleIter it t i → codeAny (model X.prog X.w) X.A.in1 (.builtin "list.extend.loop" ⟨[.ref L, .ref it, .none], []⟩) Rs s := by
  have hzi : ∀ ys, SqT X.K (upd H L (.lst ys)) t zs := fun ys => by
    rcases hz with (h | ⟨u, h⟩) | h
    · exact .inl (.inl (by rw [upd_ne fun z => by rw [z, hL] at h; cases h]; exact h))
    · exact .inl (.inr ⟨u, by rw [upd_ne fun z => by rw [z, hL] at h; cases h]; exact h⟩)
    · exact .inr h
  have hit : it ≠ L := fun z => by
    have := fp.1
    rw [z, hL] at this
    cases this
  have fpi : ∀ ys, FpOk X pins (upd H L (.lst ys)) it := fun ys => ⟨by rw [upd_ne hit]; exact fp.1, fp.2⟩
  intro m
  induction m with
  | zero =>
    intro i s hm hi I st
    have e : i = zs.length := by omega
    subst e
    obtain ⟨its, rv, pt, _⟩ := I.tuple (hzi _)
    obtain ⟨f0, f1, f2, f3, f4, f5⟩ := fpi (zs.take zs.length)
    have hl := rv.length
    refine codeAny_builtin PySem.F.entry_extend_loop ?_
    rw [Around.under_plainId PySem.F.plain_extend_loop _]
    show wpAny _ X.A.in1.in1 (pyNext (.ref it) >>= _) _ _ s
    refine wpAny_bind (wpAny_pyNext_tuple_end (I.ok.hd hc) st (show s.heap.IsTuple t its.toArray from pt) (by simp; omega) fun h' eb => ?_)
    have I1 : Inv X pins σ (upd H L (.lst (zs.take zs.length))) { s with heap := h' } := I.turned (t' := s.toks) (fun b o hb e => eb b o hb e) f0 f1 f3 f4 f5
    rw [List.take_length] at I1
    exact wpAny_pure (done _ I1)
  | succ m ih =>
    intro i s hm hi I st
    have hlt : i < zs.length := by omega
    obtain ⟨its, rv, pt, _⟩ := I.tuple (hzi _)
    obtain ⟨u, hu, ru⟩ := rv.get (List.getElem?_eq_getElem hlt)
    obtain ⟨f0, f1, f2, f3, f4, f5⟩ := fpi (zs.take i)
    refine codeAny_builtin PySem.F.entry_extend_loop ?_
    rw [Around.under_plainId PySem.F.plain_extend_loop _]
    show wpAny _ X.A.in1.in1 (pyNext (.ref it) >>= _) _ _ s
    refine wpAny_bind (wpAny_pyNext_tuple_item st (show s.heap.IsTuple t its.toArray from pt) (x := u) (by simpa using hu) fun h' st' sb => ?_)
    have I1 : Inv X pins σ (upd H L (.lst (zs.take i))) { s with heap := h' } := I.turned (t' := s.toks) (fun b o hb e => (sb.2 b hb).trans e) f0 f1 f3 f4 f5
    obtain ⟨z, js, c, rj, hjl, ej⟩ := I1.lstM upd_same
    have tl : (zs.take i).length = i := by rw [List.length_take]; omega
    have jl : js.length = i := by rw [← rj.length, tl]
    show wpAny _ X.A.in1.in1 (updateSeq L (·.push u) >>= _) _ _ _
    have I2 := I1.lset (f := (·.push u)) (its := js) (its' := js ++ [u]) (ys := zs.take (i + 1)) (t' := s.toks) upd_same ej (by simp) (by rw [List.take_add_one, List.getElem?_eq_getElem hlt]; exact rj.append (.cons ru .nil)) (by rw [List.length_take, sizeLine_eq]; omega)
    rw [upd_upd] at I2
    refine wpAny_bind (wpAny_updateSeq ej rfl (wpAny_pure ⟨plainId_quiet PySem.F.plain_extend_loop _, ih (i + 1) _ (by omega) hlt I2 ?_⟩) (by rw [List.size_toArray, jl, sizeLine_eq]; omega) (by show (js.toArray.push u).size ≤ sizeLine + 1; rw [Array.size_push, List.size_toArray, jl, sizeLine_eq]; omega))
    exact st'.at fun o e => (Heap.get?_update_other _ _ (Ne.symm hit)).trans e
def rListO (K : PySem.W.Frag) (C : Addr) (f : Str) (sp : Sp) : List V → Hp → VK → Prop := fun xs H Q => ∃ (p dx t : Addr) (fs : List (Str × V)) (zs : List V), xs = [.ref p] ∧ H p = some (.ins C dx fs) ∧ fs.lookup f = some (.ref t) ∧ SqT K H t zs ∧ zs.length ≤ 1000 ∧
  (∀ G, (∀ b o, H b = some o → G b = some o) → sp [.ref p] G (fun v G' => G' = G ∧ ∃ n : Nat, v = .int (n : Int) ∧ n ≤ 1000) E0) ∧ ∀ q, H q = none → Q (.ref q) (upd H q (.lst zs))
theorem call_listO {f : Str} (hc : X.calm = true) (ci : ItM X.prog X.w X.K X.mg X.base C f k) (cl : OwM X.prog X.w X.K X.mg X.base CX0 C "__len__" k ps sp) (hr : Room (k + 3) X.A) : CallR X (.type "list") (rListO X.K C f sp) := by
  intro pins s σ H xs us Q I rv h
  obtain ⟨p, dx, t, fs, zs, rfl, hp, hl, hz, hzl, hsp, q⟩ := h
  obtain ⟨u, rfl, ru⟩ := rv.one
  cases ru
  have sb : Sub X (k + 1) X.A.in1.in1 := Sub.in1 (Sub.in1 (sub_self hr))
  refine callType_codes (Q₁ := fun obj s1 => obj = .ref s.heap.objs.size ∧ s1 = { s with heap := s.heap.push { cls := .type "list", data := .seq #[] } }) PySem.F.called_list (PySem.F.typeCall_list_1 _) PySem.F.entry_list_init (code_list_new _ ⟨rfl, rfl⟩) fun obj s1 h1 => ?_
  obtain ⟨rfl, rfl⟩ := h1
  have hS : (s.heap.push { cls := .type "list", data := .seq #[] }).get? s.heap.objs.size = some { cls := .type "list", data := .seq #[] } := Heap.get?_push_size _ rfl
  refine ⟨⟨_, hS, rfl⟩, PySem.F.args_list_init_2 _ _, ?_⟩
  have fr : H s.heap.objs.size = none := I.hok.fresh (Nat.le_refl _)
  have I1 : Inv X pins σ (upd H s.heap.objs.size (.lst [])) { s with heap := s.heap.push { cls := .type "list", data := .seq #[] } } := I.lnew (its := []) (t' := s.toks) .nil (Nat.zero_le _)
  have q2 := q _ fr
  have sm : Same H (upd H s.heap.objs.size (.lst [])) := same_new fr
  generalize hLd : s.heap.objs.size = L at hS fr I1 q2 sm ⊢
  show wpAny _ _ (do let old ← Builtin.List.listItems (.ref L); Builtin.List.listUpdate (.ref L) (fun _ => #[]); letGo old.toList.reverse; Builtin.List.listExtendWith (.ref L) (.ref p) .none) _ _ _
  refine wpAny_bind ?_
  unfold Builtin.List.listItems
  refine wpAny_bind (wpAny_seqItems hS rfl (wpAny_pure ?_))
  show wpAny _ _ (updateSeq L (fun _ => #[]) >>= fun _ => letGo (#[] : Array Value).toList.reverse >>= fun _ => Builtin.List.listExtendWith (.ref L) (.ref p) .none) _ _ _
  refine wpAny_bind (wpAny_updateSeq hS rfl ?_)
  have I2 := I1.lset (f := fun _ => #[]) (its := []) (its' := []) (ys := []) (t' := s.toks) upd_same hS rfl .nil (Nat.zero_le _)
  rw [upd_upd] at I2
  refine wpAny_bind (wpAny_letGo ?_)
  have hp2 := sm _ _ hp
  have hz2 := Bx.Same.tup sm hz
  have hsp2 := hsp _ sm
  have hL2 : upd H L (.lst []) L = some (.lst []) := upd_same
  have hne : L ≠ p := fun z => by rw [← z, fr] at hp; cases hp
  have fin : ∀ s', Inv X pins σ (upd (upd H L (.lst [])) L (.lst zs)) s' → EP X pins σ Q (.ref L) s' := fun s' I' => by
    rw [upd_upd] at I'
    exact ⟨.ref L, _, I', rfl, q2⟩
  clear q2 q hsp I1 I hS
  obtain ⟨mA, J, _⟩ := ins_get I2.hok hp2
  obtain ⟨od, J, _⟩ := J.look
  unfold Builtin.List.listExtendWith
  refine wpAny_bind (J.type.here ?_)
  have e1 : Builtin.List.listSameRef (.ref L) (.ref p) = false := by simp [Builtin.List.listSameRef, hne]
  have e2 : (Value.ref C == Value.type "list") = false := rfl
  have e3 : (Value.ref C == Value.type "tuple") = false := rfl
  simp only [e1, e2, e3, Bool.or_false, Bool.false_eq_true, if_false]
  refine wpAny_bind (iter_at (sb.mono (Nat.le_succ _)) ci I2 hp2 hl hz2 fun it s2 I3 hit fp => ?_)
  obtain ⟨oi, hoi, hci, hdi⟩ := id hit
  have Ip := I3.pinned (fp := [it]) (fun b hb => by rw [List.mem_singleton.mp hb]; exact fp) (fun b hb => by rw [List.mem_singleton.mp hb]; exact ⟨oi, hoi, fun v z => by rw [hdi] at z; cases z⟩)
  refine wpAny_bind (wpAny_holding (hint_own sb cl Ip hp2 hsp2 fun b s3 I4 => ?_))
  have hit3 : s3.heap.IsTupleIter it t 0 := hit.at fun o e => (I4.pin (it, o) (List.mem_append_right _ (List.mem_append_right _ (mem_pinsAt List.mem_cons_self e)))).1
  have I5 := I4.unpinned
  have run : ∀ s5, Inv X pins σ (upd (upd H L (.lst [])) L (.lst (zs.take 0))) s5 → s5.heap.IsTupleIter it t 0 → codeAny (model X.prog X.w) X.A.in1 (.builtin "list.extend.loop" ⟨[.ref L, .ref it, .none], []⟩) (wants (fun r s6 => r = .none ∧ EP X pins σ Q (.ref L) s6) X.xe) s5 := fun s5 J5 st5 =>
    ext_loop hc hL2 hz2 hzl fp (fun s6 J6 => ⟨rfl, fin s6 J6⟩) _ 0 s5 rfl (Nat.zero_le _) J5 st5
  have hH : upd (upd H L (.lst [])) L (.lst (zs.take 0)) = upd H L (.lst []) := upd_upd
  rw [hH] at run
  have hneL : it ≠ L := fun z => by
    have := fp.1
    rw [z, hL2] at this
    cases this
  refine wpAny_ite_split (fun _ => wpAny_bind (wpAny_rule (wpAny_bind ?_))) (fun _ => wpAny_pure ⟨plainId_quiet PySem.F.plain_extend_loop _, run s3 I5 hit3⟩)
  obtain ⟨z1, j1, c1, r1, l1, w1⟩ := I5.lstM hL2
  cases r1
  show wpAny _ _ (updateSeq L (·.push .none) >>= fun _ => updateSeq L (·.pop)) _ _ s3
  have K1 := I5.lset (f := (·.push Value.none)) (its' := [Value.none]) (ys := [.non]) (t' := s3.toks) hL2 w1 (by simp) (.cons rfl .nil) (by rw [sizeLine_eq]; decide)
  refine wpAny_bind (wpAny_updateSeq w1 rfl ?_)
  obtain ⟨z2, j2, c2, r2, l2, w2⟩ := K1.lstM upd_same
  obtain ⟨u2, rfl, _⟩ := r2.one
  have K2 := K1.lset (f := (·.pop)) (its := [u2]) (its' := []) (ys := []) (t' := s3.toks) upd_same w2 rfl .nil (Nat.zero_le _)
  rw [upd_upd, upd_upd] at K2
  refine wpAny_updateSeq w2 rfl (wpAny_pure ⟨plainId_quiet PySem.F.plain_extend_loop _, run _ K2 ?_⟩) (by show 1 ≤ sizeLine; rw [sizeLine_eq]; decide) (Nat.zero_le _)
  exact hit3.at fun o e => (Heap.get?_update_other _ _ (Ne.symm hneL)).trans ((Heap.get?_update_other _ _ (Ne.symm hneL)).trans e)
end
end Px
/-! o.m(..) where a method that may raise does not; C.m(..) of a classmethod. -/
namespace Px
open PySem PySem.Spec PyProof.Rows L2 Bx TL Dx Zx Ow
structure CmC (P : Program) (w : World) (K : PySem.W.Frag) (mg : Str → Option Value) (base : Heap) (C : Addr) (m : Str) (k : Nat) (sp : Sp) : Prop where
  ex : ∃ (mc : Value) (p g : Addr), ClX.CRead K C mc ∧ ClX.CMet K C mc m p g ∧ FnR P w K mg base CX0 k g sp
section
variable {X : Cx} {k : Nat} {ps : List Str} {sp : Sp} {o e : Expr} {es : List Expr} {t : TA} {apos pos : Pos} {C : Addr} {m : Str} {to : TE} {pl : Sem Bool}
theorem pe_mthN (c : MthX X.prog X.w X.K X.mg X.base C m k ps sp) (hr : Room k X.A) (ho : PE X o to) (ha : PA X (e :: es) t)
    (hst : starEach (e :: es) X.env = (false, eval e X.env) :: starEach es X.env := by rfl) (hpl : (backTo pos (starEach es X.env)).any (·.1) = false := by rfl)
    (ht : eval (.Call (.Attribute o m apos) (e :: es) [] pos) X.env = (do
      let ov ← eval o X.env
      standAt apos.atName
      let (f, first) ← holding [ov] (getMethod ov m pl)
      callWith pos f first (backTo pos (starEach (e :: es) X.env)) (backToKw pos (keywordEach [] X.env))) := by rfl) : PE X (.Call (.Attribute o m apos) (e :: es) [] pos) (tMeth C m sp [] E0 to t) := by
  obtain ⟨f, fd, cl, mt, ok, b⟩ := c.ex
  exact pe_meth (E := E0) ho cl mt ok hr b .nil passN ha hst hpl ht
theorem pe_cme (c : CmC X.prog X.w X.K X.mg X.base C m k sp) (hr : Room k X.A) (ho : PE X o to) (ha : PA X (e :: es) t)
    (hst : starEach (e :: es) X.env = (false, eval e X.env) :: starEach es X.env := by rfl) (hpl : (backTo pos (starEach es X.env)).any (·.1) = false := by rfl)
    (ht : eval (.Call (.Attribute o m apos) (e :: es) [] pos) X.env = (do
      let ov ← eval o X.env
      standAt apos.atName
      let (f, first) ← holding [ov] (getMethod ov m pl)
      callWith pos f first (backTo pos (starEach (e :: es) X.env)) (backToKw pos (keywordEach [] X.env))) := by rfl) : PE X (.Call (.Attribute o m apos) (e :: es) [] pos) (ClX.tCMeth C sp E0 to t) := by
  obtain ⟨mc, p, g, r, cm, F⟩ := c.ex
  exact ClX.pe_cmeth ho r cm F hr L2.pass0 ha hst hpl ht
/-- a property by its promise -/
structure PropC (P : Program) (w : World) (K : PySem.W.Frag) (mg : Str → Option Value) (base : Heap) (C : Addr) (m : Str) (k : Nat) (sp : Sp) : Prop where
  cl : Cls K C
  ex : ∃ (p g : Addr) (fd : FuncData), PropOf K C m p g ∧ FnOk P w K mg base CX0 k g fd ["self"] sp ∧ Binds K fd ["self"] []
theorem pe_propC {ta : TE} (c : PropC X.prog X.w X.K X.mg X.base C m k sp) (hr : Room (k + 1) X.A) (he : PE X e ta) (hab : attributeBase e m X.env (eval e X.env) = eval e X.env) : PE X (.Attribute e m pos) (tProp C sp [] E0 ta) := by
  obtain ⟨p, g, fd, hp, F, hb⟩ := c.ex
  exact pe_prop he c.cl hp F hr hb .nil L2.pass0 hab
end
end Px
/-! the least name that occurs twice, as the program and the law find it -/
namespace M02
open PySem PySem.Spec PyProof.Rows L2 Bx TL Dx
def le (a b : Str) : Prop := a.cps.toList ≤ b.cps.toList
def lt (a b : Str) : Prop := a.cps.toList < b.cps.toList
theorem le_refl (a : Str) : le a a := Std.le_refl _
theorem le_trans {a b c : Str} (h : le a b) (k : le b c) : le a c := Std.le_trans h k
theorem le_anti {a b : Str} (h : le a b) (k : le b a) : a = b := ext_tl (Std.le_antisymm h k)
theorem not_lt {a b : Str} (h : le a b) : ¬ lt b a := Std.not_lt.mpr h
theorem le_of {a b : Str} (h : ¬ lt b a) : le a b := Std.not_lt.mp h
theorem lt_le {a b : Str} (h : lt a b) : le a b := Std.le_of_lt h
theorem le_at {l : List Str} (h : sortedS l = true) {k : Nat} {x y : Str} (h1 : l[k]? = some x) (h2 : l[k + 1]? = some y) : le x y := by
  cases l with
  | nil => cases h1
  | cons p r =>
    have a := rising_at p r h k x y h1 h2
    rw [ltCps_eq] at a
    exact Std.not_lt.mp (of_decide_eq_false a)
theorem le_far {l : List Str} (h : sortedS l = true) : ∀ (d i : Nat) {x y : Str}, l[i]? = some x → l[i + d]? = some y → le x y
  | 0, i, x, y, h1, h2 => by
    rw [Nat.add_zero, h1] at h2
    cases h2
    exact le_refl x
  | d + 1, i, x, y, h1, h2 => by
    have hl : i + d < l.length := by
      have := (List.getElem?_eq_some_iff.mp h2).1
      omega
    exact le_trans (le_far h d i h1 (List.getElem?_eq_getElem hl)) (le_at h (List.getElem?_eq_getElem hl) h2)
/-- the least member that occurs twice -/
def Dup (xs : List Str) (z : Str) : Prop := 1 < xs.count z ∧ ∀ y, 1 < xs.count y → le z y
theorem dup_one {xs : List Str} {y z : Str} (h : Dup xs y) (k : Dup xs z) : y = z := le_anti (h.2 z k.1) (k.2 y h.1)
theorem dup_perm {xs ys : List Str} {z : Str} (p : ys.Perm xs) (h : Dup ys z) : Dup xs z := ⟨by rw [← p.count_eq]; exact h.1, fun y hy => h.2 y (by rw [p.count_eq]; exact hy)⟩
theorem nodup_count {xs : List Str} (h : ∀ y ∈ xs, ¬ 1 < xs.count y) : xs.Nodup := List.nodup_iff_count.mpr fun a => by
  by_cases ha : a ∈ xs
  · have := h a ha
    omega
  · rw [List.count_eq_zero.mpr ha]
    omega
theorem count_nodup {xs : List Str} (h : xs.Nodup) (y : Str) : ¬ 1 < xs.count y := by
  have := List.nodup_iff_count.mp h y
  omega
/-- the program's: the first of the ascending members that occurs twice -/
theorem dup_first {xs ys : List Str} {i : Nat} {z : Str} (asc : Asc ys) (mem : ∀ x, x ∈ ys ↔ x ∈ xs) (hz : ys[i]? = some z) (no : ∀ j y, j < i → ys[j]? = some y → ¬ 1 < xs.count y) (h : 1 < xs.count z) : Dup xs z := by
  refine ⟨h, fun y hy => ?_⟩
  have hm : y ∈ ys := (mem y).mpr (List.count_pos_iff.mp (by omega))
  obtain ⟨j, hj⟩ := List.mem_iff_getElem?.mp hm
  rcases Nat.lt_trichotomy i j with c | c | c
  · obtain ⟨li, ei⟩ := List.getElem?_eq_some_iff.mp hz
    obtain ⟨lj, ej⟩ := List.getElem?_eq_some_iff.mp hj
    have := List.pairwise_iff_getElem.mp asc i j li lj c
    rw [ei, ej] at this
    exact lt_le this
  · rw [c, hj] at hz
    cases hz
    exact le_refl _
  · exact absurd hy (no j y c hj)
/-- the law's: the first of two neighbours in the sorted list -/
theorem two_at {l : List Str} {y : Str} (h : 1 < l.count y) : ∃ i j : Nat, i < j ∧ l[i]? = some y ∧ l[j]? = some y := by
  induction l with
  | nil => simp at h
  | cons x l ih =>
    by_cases e : x = y
    · subst e
      rw [List.count_cons_self] at h
      obtain ⟨j, hj⟩ := List.mem_iff_getElem?.mp (List.count_pos_iff.mp (show 0 < l.count x by omega))
      exact ⟨0, j + 1, Nat.succ_pos _, rfl, hj⟩
    · rw [List.count_cons_of_ne e] at h
      obtain ⟨i, j, hij, hi, hj⟩ := ih h
      exact ⟨i + 1, j + 1, Nat.succ_lt_succ hij, hi, hj⟩
theorem nei {l : List Str} (s : sortedS l = true) {y : Str} (h : 1 < l.count y) : ∃ i, l[i]? = some y ∧ l[i + 1]? = some y := by
  obtain ⟨i, j, hij, hi, hj⟩ := two_at h
  have hl : i + 1 < l.length := by
    have := (List.getElem?_eq_some_iff.mp hj).1
    omega
  have h1 : l[i + 1]? = some l[i + 1] := List.getElem?_eq_getElem hl
  have a := le_at s hi h1
  have b := le_far s (j - (i + 1)) (i + 1) h1 (show l[i + 1 + (j - (i + 1))]? = some y by rw [show i + 1 + (j - (i + 1)) = j by omega]; exact hj)
  exact ⟨i, hi, by rw [h1, le_anti b a]⟩
theorem two_count {l : List Str} {i j : Nat} {y : Str} (hij : i < j) (hi : l[i]? = some y) (hj : l[j]? = some y) : 1 < l.count y := by
  refine Decidable.byContradiction fun c => ?_
  induction l generalizing i j with
  | nil => cases hi
  | cons x l ih =>
    cases j with
    | zero => omega
    | succ j =>
      cases i with
      | zero =>
        have ex : x = y := Option.some.inj hi
        subst ex
        rw [List.count_cons_self] at c
        have := List.count_pos_iff.mpr (List.mem_of_getElem? (show l[j]? = some x from hj))
        omega
      | succ i =>
        refine ih (Nat.lt_of_succ_lt_succ hij) hi hj fun d => c ?_
        have := List.count_le_count_cons (a := y) (b := x) (l := l)
        omega
theorem dup_nei {l : List Str} (s : sortedS l = true) {k : Nat} {z : Str} (h1 : l[k]? = some z) (h2 : l[k + 1]? = some z) (no : ∀ j y, j < k → l[j]? = some y → l[j + 1]? ≠ some y) : Dup l z := by
  refine ⟨two_count (Nat.lt_succ_self k) h1 h2, fun y hy => ?_⟩
  obtain ⟨i, a, b⟩ := nei s hy
  by_cases c : i < k
  · exact absurd b (no i y c a)
  · exact le_far s (i - k) k h1 (by rw [show k + (i - k) = i by omega]; exact a)
theorem nodup_nei {l : List Str} (s : sortedS l = true) (no : ∀ j y, l[j]? = some y → l[j + 1]? ≠ some y) : l.Nodup := nodup_count fun y _ c => by
  obtain ⟨i, a, b⟩ := nei s c
  exact no i y a b
end M02
namespace K02
local macro_rules | `(tactic| walk_at "rd") => `(tactic| repeat (first | refine ⟨rfl, ?_⟩ | refine ⟨_, rfl, ?_⟩ | refine ⟨_, _, rfl, rfl, ?_⟩ | refine ⟨⟨_, rfl⟩, ?_⟩))
open PySem PySem.Spec PyProof.Rows L2 Bx TL Dx Zx Ow Sup Er NdefX Px
def topS (i : Nat) : Stmt := PySem.Challenge.pw_shadowlinks_k02_parts.main.body.getD i (.Pass ⟨0, 0, 0, 0⟩)
abbrev s_InvalidName___init__ : Stmt := inClass (topS 2) 0
abbrev n_InvalidName___init__ : List Str := ["self", "name"]
theorem ns_InvalidName___init__ : NScope (n_InvalidName___init__ ++ [("__class__" : Str)]) ["self", "name"] [("__class__" : Str)] (defScope s_InvalidName___init__) := nscope_by (by decide +kernel)
abbrev s_InvalidPart___init__ : Stmt := inClass (topS 3) 0
abbrev n_InvalidPart___init__ : List Str := ["self", "name"]
theorem ns_InvalidPart___init__ : NScope (n_InvalidPart___init__ ++ [("__class__" : Str)]) ["self", "name"] [("__class__" : Str)] (defScope s_InvalidPart___init__) := nscope_by (by decide +kernel)
abbrev s_is_name : Stmt := topS 8
abbrev n_is_name : List Str := ["text", "letter"]
theorem sc_is_name : FnScope n_is_name ["text"] (defScope s_is_name) := ⟨rfl, rfl, rfl, by decide +kernel, rfl, by decide +kernel, by decide +kernel⟩
abbrev s_is_full_name : Stmt := topS 9
abbrev n_is_full_name : List Str := ["text", "piece"]
theorem sc_is_full_name : FnScope n_is_full_name ["text"] (defScope s_is_full_name) := ⟨rfl, rfl, rfl, by decide +kernel, rfl, by decide +kernel, by decide +kernel⟩
abbrev s_merge_names : Stmt := topS 10
abbrev n_merge_names : List Str := ["lists", "names", "name"]
theorem sc_merge_names : FnScope n_merge_names ["lists"] (defScope s_merge_names) := ⟨rfl, rfl, rfl, by decide +kernel, rfl, by decide +kernel, by decide +kernel⟩
abbrev s_Part___init__ : Stmt := inClass (topS 12) 0
abbrev n_Part___init__ : List Str := ["self", "word", "name", "shown", "hidden", "constraints"]
theorem sc_Part___init__ : FnScope n_Part___init__ ["self", "word", "name", "shown", "hidden", "constraints"] (defScope s_Part___init__) := ⟨rfl, rfl, rfl, by decide +kernel, rfl, by decide +kernel, by decide +kernel⟩
abbrev s_Part_bare : Stmt := inClass (topS 12) 1
abbrev n_Part_bare : List Str := ["cls", "word", "name"]
theorem sc_Part_bare : FnScope n_Part_bare ["cls", "word", "name"] (defScope s_Part_bare) := ⟨rfl, rfl, rfl, by decide +kernel, rfl, by decide +kernel, by decide +kernel⟩
abbrev s_Part_names : Stmt := inClass (topS 12) 2
abbrev n_Part_names : List Str := ["self"]
theorem sc_Part_names : FnScope n_Part_names ["self"] (defScope s_Part_names) := ⟨rfl, rfl, rfl, by decide +kernel, rfl, by decide +kernel, by decide +kernel⟩
abbrev s_Part_theory : Stmt := inClass (topS 12) 3
abbrev n_Part_theory : List Str := ["self"]
theorem sc_Part_theory : FnScope n_Part_theory ["self"] (defScope s_Part_theory) := ⟨rfl, rfl, rfl, by decide +kernel, rfl, by decide +kernel, by decide +kernel⟩
abbrev s_Part___len__ : Stmt := inClass (topS 12) 4
abbrev n_Part___len__ : List Str := ["self"]
theorem sc_Part___len__ : FnScope n_Part___len__ ["self"] (defScope s_Part___len__) := ⟨rfl, rfl, rfl, by decide +kernel, rfl, by decide +kernel, by decide +kernel⟩
abbrev s_Part___iter__ : Stmt := inClass (topS 12) 5
abbrev n_Part___iter__ : List Str := ["self"]
theorem sc_Part___iter__ : FnScope n_Part___iter__ ["self"] (defScope s_Part___iter__) := ⟨rfl, rfl, rfl, by decide +kernel, rfl, by decide +kernel, by decide +kernel⟩
abbrev s_Part___contains__ : Stmt := inClass (topS 12) 6
abbrev n_Part___contains__ : List Str := ["self", "x"]
theorem sc_Part___contains__ : FnScope n_Part___contains__ ["self", "x"] (defScope s_Part___contains__) := ⟨rfl, rfl, rfl, by decide +kernel, rfl, by decide +kernel, by decide +kernel⟩
abbrev s_Part___sub__ : Stmt := inClass (topS 12) 7
abbrev n_Part___sub__ : List Str := ["self", "other", "shown", "name"]
theorem sc_Part___sub__ : FnScope n_Part___sub__ ["self", "other"] (defScope s_Part___sub__) := ⟨rfl, rfl, rfl, by decide +kernel, rfl, by decide +kernel, by decide +kernel⟩
abbrev s_Part_reveal : Stmt := inClass (topS 12) 8
abbrev n_Part_reveal : List Str := ["self", "name", "hidden", "other"]
theorem sc_Part_reveal : FnScope n_Part_reveal ["self", "name"] (defScope s_Part_reveal) := ⟨rfl, rfl, rfl, by decide +kernel, rfl, by decide +kernel, by decide +kernel⟩
abbrev s_Part_with_constraints : Stmt := inClass (topS 12) 9
abbrev n_Part_with_constraints : List Str := ["self", "constraints"]
theorem sc_Part_with_constraints : FnScope n_Part_with_constraints ["self", "constraints"] (defScope s_Part_with_constraints) := ⟨rfl, rfl, rfl, by decide +kernel, rfl, by decide +kernel, by decide +kernel⟩
abbrev s_Part_called : Stmt := inClass (topS 12) 10
abbrev n_Part_called : List Str := ["self", "name"]
theorem sc_Part_called : FnScope n_Part_called ["self", "name"] (defScope s_Part_called) := ⟨rfl, rfl, rfl, by decide +kernel, rfl, by decide +kernel, by decide +kernel⟩
abbrev s__check_names : Stmt := topS 13
abbrev n__check_names : List Str := ["name", "shown", "hidden", "plain", "full"]
theorem sc__check_names : FnScope n__check_names ["name", "shown", "hidden"] (defScope s__check_names) := ⟨rfl, rfl, rfl, by decide +kernel, rfl, by decide +kernel, by decide +kernel⟩
abbrev s__check_single : Stmt := topS 14
abbrev n__check_single : List Str := ["names", "name"]
theorem sc__check_single : FnScope n__check_single ["names"] (defScope s__check_single) := ⟨rfl, rfl, rfl, by decide +kernel, rfl, by decide +kernel, by decide +kernel⟩
abbrev s__law_source : Stmt := topS 16
abbrev n__law_source : List Str := ["_law_script", "_law_k", "_law_number"]
theorem sc__law_source : FnScope n__law_source ["_law_script", "_law_k"] (defScope s__law_source) := ⟨rfl, rfl, rfl, by decide +kernel, rfl, by decide +kernel, by decide +kernel⟩
abbrev s__law_draw : Stmt := topS 17
abbrev n__law_draw : List Str := ["_law_source_here", "_law_limit", "_law_number", "_law_mixed"]
theorem sc__law_draw : FnScope n__law_draw ["_law_source_here", "_law_limit"] (defScope s__law_draw) := ⟨rfl, rfl, rfl, by decide +kernel, rfl, by decide +kernel, by decide +kernel⟩
abbrev s__law_plain : Stmt := topS 18
abbrev n__law_plain : List Str := ["_law_source_here"]
theorem sc__law_plain : FnScope n__law_plain ["_law_source_here"] (defScope s__law_plain) := ⟨rfl, rfl, rfl, by decide +kernel, rfl, by decide +kernel, by decide +kernel⟩
abbrev s__law_names : Stmt := topS 19
abbrev n__law_names : List Str := ["_law_source_here", "_law_dotted", "_law_names_here", "_law_k", "_law_name", "_law_bad"]
theorem sc__law_names : FnScope n__law_names ["_law_source_here", "_law_dotted"] (defScope s__law_names) := ⟨rfl, rfl, rfl, by decide +kernel, rfl, by decide +kernel, by decide +kernel⟩
abbrev s__law_is_name : Stmt := topS 20
abbrev n__law_is_name : List Str := ["_law_text", "_law_char"]
theorem sc__law_is_name : FnScope n__law_is_name ["_law_text"] (defScope s__law_is_name) := ⟨rfl, rfl, rfl, by decide +kernel, rfl, by decide +kernel, by decide +kernel⟩
abbrev s__law_is_full : Stmt := topS 21
abbrev n__law_is_full : List Str := ["_law_text", "_law_piece"]
theorem sc__law_is_full : FnScope n__law_is_full ["_law_text"] (defScope s__law_is_full) := ⟨rfl, rfl, rfl, by decide +kernel, rfl, by decide +kernel, by decide +kernel⟩
abbrev s__law_expected_error : Stmt := topS 22
abbrev n__law_expected_error : List Str := ["_law_name", "_law_shown", "_law_hidden", "_law_text", "_law_every", "_law_k"]
theorem sc__law_expected_error : FnScope n__law_expected_error ["_law_name", "_law_shown", "_law_hidden"] (defScope s__law_expected_error) := ⟨rfl, rfl, rfl, by decide +kernel, rfl, by decide +kernel, by decide +kernel⟩
abbrev s__law_raised : Stmt := topS 23
abbrev n__law_raised : List Str := ["_law_name", "_law_shown", "_law_hidden", "e"]
theorem sc__law_raised : FnScope n__law_raised ["_law_name", "_law_shown", "_law_hidden"] (defScope s__law_raised) := ⟨rfl, rfl, rfl, by decide +kernel, rfl, by decide +kernel, by decide +kernel⟩
abbrev s__law_shows : Stmt := topS 24
abbrev n__law_shows : List Str := ["_law_part", "_law_shown", "_law_hidden", "_law_constraints", "_law_names_here", "_law_name", "_law_constraint"]
theorem sc__law_shows : FnScope n__law_shows ["_law_part", "_law_shown", "_law_hidden", "_law_constraints"] (defScope s__law_shows) := ⟨rfl, rfl, rfl, by decide +kernel, rfl, by decide +kernel, by decide +kernel⟩
abbrev s__law_hides : Stmt := topS 25
abbrev n__law_hides : List Str := ["_law_part", "_law_name", "e"]
theorem sc__law_hides : FnScope n__law_hides ["_law_part", "_law_name"] (defScope s__law_hides) := ⟨rfl, rfl, rfl, by decide +kernel, rfl, by decide +kernel, by decide +kernel⟩
abbrev s__law_reveals : Stmt := topS 26
abbrev n__law_reveals : List Str := ["_law_part", "_law_name", "e"]
theorem sc__law_reveals : FnScope n__law_reveals ["_law_part", "_law_name"] (defScope s__law_reveals) := ⟨rfl, rfl, rfl, by decide +kernel, rfl, by decide +kernel, by decide +kernel⟩
abbrev s__law_moves_right : Stmt := topS 27
abbrev n__law_moves_right : List Str := ["_law_part", "_law_name", "_law_shown", "_law_hidden", "_law_constraints", "_law_other", "_law_n"]
theorem sc__law_moves_right : FnScope n__law_moves_right ["_law_part", "_law_name", "_law_shown", "_law_hidden", "_law_constraints"] (defScope s__law_moves_right) := ⟨rfl, rfl, rfl, by decide +kernel, rfl, by decide +kernel, by decide +kernel⟩
abbrev s__law_others_right : Stmt := topS 28
abbrev n__law_others_right : List Str := ["_law_part", "_law_shown", "_law_hidden", "_law_constraints", "_law_revised", "_law_again", "_law_bare", "e"]
theorem sc__law_others_right : FnScope n__law_others_right ["_law_part", "_law_shown", "_law_hidden", "_law_constraints"] (defScope s__law_others_right) := ⟨rfl, rfl, rfl, by decide +kernel, rfl, by decide +kernel, by decide +kernel⟩
abbrev s_law : Stmt := topS 29
abbrev n_law : List Str := ["_law_script", "_law_source_here", "_law_name", "_law_shown", "_law_hidden", "_law_constraints", "_law_expected", "_law_passed", "_law_part", "_law_k", "_law_other"]
theorem sc_law : FnScope n_law ["_law_script"] (defScope s_law) := ⟨rfl, rfl, rfl, by decide +kernel, rfl, by decide +kernel, by decide +kernel⟩
abbrev lett : List Nat := [97, 98, 99, 100, 101, 102, 103, 104, 105, 106, 107, 108, 109, 110, 111, 112, 113, 114, 115, 116, 117, 118, 119, 120, 121, 122]
abbrev digs : List Nat := [48, 49, 50, 51, 52, 53, 54, 55, 56, 57]
def okName : List Nat → Bool
  | [] => false
  | c :: l => decide ((c :: l).length ≤ 8) && decide (c ∈ lett) && (c :: l).all fun d => decide (d ∈ lett ++ digs)
theorem tl_lett : tl (Str.ofString "abcdefghijklmnopqrstuvwxyz") = lett := by decide +kernel
theorem tl_ld : tl (Str.ofString "abcdefghijklmnopqrstuvwxyz0123456789") = lett ++ digs := by decide +kernel
section
variable {P : Program} {w : World} {K : PySem.W.Frag} {mg : Str → Option Value} {base : Heap}
def spIsName : Sp := fun vs H Q _ => ∃ z : Str, vs = [.str z] ∧ z.length ≤ 1000 ∧ ∀ H', Same H H' → Q (.bl (okName (tl z))) H'
theorem ok_is_name {f : Addr} {fd : FuncData} (F : Fun K "is_name" "is_name" s_is_name f fd) (m_len : mg "len" = none) (m_all : mg "all" = none) {t1 t2 t3 : Tok} (m_LONGEST : mg "LONGEST" = some (.int 8 t1))
    (m_LETTERS : mg "LETTERS" = some (.str (Str.ofString "abcdefghijklmnopqrstuvwxyz") t2)) (m_LETTERS_AND_DIGITS : mg "LETTERS_AND_DIGITS" = some (.str (Str.ofString "abcdefghijklmnopqrstuvwxyz0123456789") t3)) : FnOk P w K mg base CX0 1 f fd ["text"] spIsName := by
  refine F.ok sc_is_name (fun vs H Q E h => ?_) (fun cdv A outer s H vs Q E hr h => ?_)
  · obtain ⟨z, rfl, _⟩ := h
    rfl
  · obtain ⟨z, rfl, hz, q⟩ := h
    have hu := hu_of hr
    refine ⟨_, (pss_cons (ps_if (PW.pt (pw_or (pt_cmpR op_eq (pv 0) pe_str (nomark _)) (pw_or1 (pt_cmpR op_gt (pe_callB call_len_str (by rfl) m_len PySem.boot_len (pa_cons (pv 0) pa_nil)) (pe_glob (v := .int _) rfl m_LONGEST ⟨_, rfl⟩) (nomark _)))))
      (pss_one (ps_ret pe_bl))
      pss_nil)
    (pss_one (ps_ret (pe_and (pe_cmpR op_in_sign (pe_ix ix_str (pv 0) pe_int (fun _ _ => rfl)) (pe_glob (v := .str _) rfl m_LETTERS ⟨_, rfl⟩) (by rfl)) (pe_one (pe_callB (id := "all") (cr_all rfl) (by rfl) m_all (by decide +kernel) (pa_cons (pe_lc (own := [("letter", 1)]) (tt := tYes) rfl sc_is_name.nd (pi_str (pv 0)) (blkOk_by (N := n_is_name) (sc := defScope s_is_name) (by decide +kernel)) (fun _ _ _ _ _ => pg_name (i := 1) sc_is_name.nd rfl (Or.inl rfl)) (fun _ _ _ _ _ => pts_nil) (fun _ _ _ _ _ => (pe_cmpR op_in_sign (pv 1) (pe_glob (v := .str _) rfl m_LETTERS_AND_DIGITS ⟨_, rfl⟩) (by rfl)))) pa_nil))))))), ?_⟩
    have hz2 : z.length ≤ sizeLine := sz (by omega)
    have hlen : (tl z).length = z.length := (len_tl z).symm
    walk_at "rd"
    refine ite2 (fun h0 => ?_) (fun h0 => ?_)
    · refine iteT ?_
      have e : z = Str.ofString "" := V.str.inj (of_decide_eq_true h0)
      have e2 : okName (tl z) = false := by
        rw [e]
        rfl
      rw [e2] at q
      exact q H (Same.refl H)
    · have hne : tl z ≠ [] := fun e => h0 (decide_eq_true (congrArg V.str (ext_tl (e.trans rfl))))
      walk_at "rd"
      refine ⟨hz2, ?_⟩
      walk_at "rd"
      refine ite2 (fun h1 => ?_) (fun h1 => ?_)
      · have h2 : (8 : Int) < z.length := of_decide_eq_true h1
        have e2 : okName (tl z) = false := by
          cases e : tl z with
          | nil => rfl
          | cons c l =>
            rw [e] at hlen
            show (decide ((c :: l).length ≤ 8) && _ && _) = false
            rw [decide_eq_false (by omega)]
            rfl
        rw [e2] at q
        exact q H (Same.refl H)
      · have h2 : ¬ (8 : Int) < z.length := fun c => h1 (decide_eq_true c)
        obtain ⟨c, l, e⟩ : ∃ c l, tl z = c :: l := by
          cases e : tl z with
          | nil => exact absurd e hne
          | cons c l => exact ⟨c, l, rfl⟩
        have hc : atI z.cps.toList 0 = some c := by
          show atI (tl z) ((0 : Nat) : Int) = some c
          exact atI_nat (by rw [e]; rfl)
        walk_at "rd"
        refine ⟨_, _, _, rfl, rfl, hz2, hc, ?_⟩
        walk_at "rd"
        have ha : decide (c ∈ (Str.ofString "abcdefghijklmnopqrstuvwxyz").cps.toList) = decide (c ∈ lett) := by
          rw [show (Str.ofString "abcdefghijklmnopqrstuvwxyz").cps.toList = lett from tl_lett]
        refine ite2 (fun h3 => ?_) (fun h3 => ?_)
        · rw [ha] at h3
          -- all([..])
          walk_at "rd"
          refine fun D hD => lc_it walk_str (fun i H' => Same H H' ∧ H' D = some (.lst (((tl z).take i).map fun c => V.bl (decide (c ∈ lett ++ digs))))) ⟨same_new hD, by rw [upd_same]; rfl⟩ (fun _ _ _ _ => trivial) ?_ ?_
          · rintro i x H1 H2 hi ⟨hs, hd⟩ ⟨rfl, c, hc, rfl⟩
            have hi2 : (tl z)[i]? = some c := by
              rw [← Array.getElem?_toList] at hc
              exact hc
            refine ⟨rfl, ?_⟩
            walk_at "rd"
            refine ⟨_, hd, ?_, ?_, ?_⟩
            · rw [List.length_map, List.length_take]
              exact szl (by omega)
            · exact fun b o eb => by
                rw [upd_ne (ne_of_none eb hD)]
                exact hs b o eb
            · rw [upd_same, List.take_add_one, hi2, List.map_append]
              rw [show (Str.ofString "abcdefghijklmnopqrstuvwxyz0123456789").cps.toList = lett ++ digs from tl_ld]
              rfl
          · rintro H1 ⟨hs, hd⟩
            rw [show z.cps.size = (tl z).length from (Array.length_toList).symm, List.take_length] at hd
            refine ⟨_, (tl z).map (fun c => decide (c ∈ lett ++ digs)), rfl, sq (by rw [hd, List.map_map]; rfl), ?_⟩
            have e2 : okName (tl z) = ((tl z).map fun c => decide (c ∈ lett ++ digs)).all id := by
              rw [List.all_map, e]
              rw [e] at hlen
              show (decide ((c :: l).length ≤ 8) && decide (c ∈ lett) && _) = _
              rw [decide_eq_true (show (c :: l).length ≤ 8 by omega), h3]
              rfl
            rw [e2] at q
            exact q H1 hs
        · rw [ha] at h3
          have e2 : okName (tl z) = false := by
            rw [e]
            show (_ && decide (c ∈ lett) && _) = false
            rw [Bool.eq_false_iff.mpr h3, Bool.and_false]
            rfl
          rw [e2] at q
          exact q H (Same.refl H)

def spFull : Sp := fun vs H Q _ => ∃ z : Str, vs = [.str z] ∧ z.length ≤ 1000 ∧ (∀ p ∈ Txt.split z ".", p.length ≤ 1000) ∧ (Txt.split z ".").length ≤ 1000 ∧ ∀ H', Same H H' → Q (.bl ((Txt.split z ".").all fun p => okName (tl p))) H'
theorem ok_is_full_name {f : Addr} {fd : FuncData} (F : Fun K "is_full_name" "is_full_name" s_is_full_name f fd) (m_all : mg "all" = none) (C_is_name : Cal P w K mg base "is_name" 1 ["text"] spIsName) : FnOk P w K mg base CX0 2 f fd ["text"] spFull := by
  refine F.ok sc_is_full_name (fun vs H Q E h => ?_) (fun cdv A outer s H vs Q E hr h => ?_)
  · obtain ⟨z, rfl, _⟩ := h
    rfl
  · obtain ⟨z, rfl, hz, hp, hn, q⟩ := h
    refine ⟨_, (pss_one (ps_ret (pe_callB (id := "all") (cr_all rfl) (by rfl) m_all (by decide +kernel) (pa_cons (pe_lc (own := [("piece", 1)]) (tt := tYes) rfl sc_is_full_name.nd (pi_list (pe_split (pv 0) pe_str)) (blkOk_by (N := n_is_full_name) (sc := defScope s_is_full_name) (by decide +kernel)) (fun _ _ _ _ _ => pg_name (i := 1) sc_is_full_name.nd rfl (Or.inl rfl)) (fun _ _ _ _ _ => pts_nil) (fun _ _ _ _ _ => (pe_cal C_is_name (hr.mono (by decide)) (pa_cons (pv 1) pa_nil)))) pa_nil)))), ?_⟩
    walk_at "rd"
    refine ⟨sz (by omega), fun p np => ?_⟩
    walk_at "rd"
    refine ⟨⟨_, sq upd_same⟩, fun D hD => ?_⟩
    have hDp : p ≠ D := fun e => by
      rw [e, upd_same] at hD
      cases hD
    refine lc_list (xs := (Txt.split z ".").map V.str) (fun i H' => Same H H' ∧ H' p = some (.lst ((Txt.split z ".").map V.str)) ∧ H' D = some (.lst ((((Txt.split z ".").take i).map fun c => V.bl (okName (tl c)))))) ⟨?_, ?_, by rw [upd_same]; rfl⟩ (fun i H' _ h => sq h.2.1) ?_ ?_
    · exact (same_new np).trans (same_new hD)
    · rw [upd_ne hDp, upd_same]
    · rintro i x H1 hi ⟨hs, h1, h2⟩
      obtain ⟨y, hy, rfl⟩ : ∃ y, (Txt.split z ".")[i]? = some y ∧ x = .str y := by
        rw [List.getElem?_map] at hi
        cases e : (Txt.split z ".")[i]? with
        | none =>
          rw [e] at hi
          cases hi
        | some y =>
          rw [e] at hi
          exact ⟨y, rfl, (Option.some.inj hi).symm⟩
      refine ⟨rfl, ?_⟩
      walk_at "rd"
      refine ⟨hp y (List.mem_of_getElem? hy), fun H2 s2 => ?_⟩
      refine ⟨_, s2 _ _ h2, ?_, ?_, ?_, ?_⟩
      · rw [List.length_map, List.length_take]
        exact szl (by omega)
      · exact same_at ((same_new np).free hD) (hs.trans s2)
      · rw [upd_ne hDp]
        exact s2 _ _ h1
      · rw [upd_same, List.take_add_one, hy, List.map_append]
        rfl
    · rintro H1 ⟨hs, h1, h2⟩
      rw [List.length_map, List.take_length] at h2
      refine ⟨_, (Txt.split z ".").map (fun c => okName (tl c)), rfl, sq (by rw [h2, List.map_map]; rfl), ?_⟩
      have e2 : ((Txt.split z ".").map fun c => okName (tl c)).all id = (Txt.split z ".").all fun p => okName (tl p) := by
        rw [List.all_map]
        rfl
      rw [e2]
      exact q H1 hs

/-! ### merge_names -/
def spMerge0 (K : PySem.W.Frag) : Sp := fun vs H Q _ => ∃ (p : Addr) (L : List (Addr × List Str)), vs = [.ref p] ∧ SqT K H p (L.map fun q => V.ref q.1) ∧ (∀ q ∈ L, SqL K H q.1 (q.2.map V.str) ∨ SqT K H q.1 (q.2.map V.str)) ∧ (L.map fun q => q.2).flatten.length ≤ 3000 ∧
  ∀ r H' ys, Same H H' → H r = none → H' r = some (.tup (ys.map V.str)) → sortedS ys = true → ys.Nodup → (∀ x, x ∈ ys ↔ x ∈ (L.map fun q => q.2).flatten) → Q (.ref r) H'
def spMerge (K : PySem.W.Frag) : Sp := fun vs H Q _ => ∃ (L : List (Addr × List Str)), vs = L.map (fun q => V.ref q.1) ∧ (∀ q ∈ L, SqL K H q.1 (q.2.map V.str) ∨ SqT K H q.1 (q.2.map V.str)) ∧ L.length ≤ 1000 ∧ (L.map fun q => q.2).flatten.length ≤ 3000 ∧
  ∀ r H' ys, Same H H' → H r = none → H' r = some (.tup (ys.map V.str)) → sortedS ys = true → ys.Nodup → (∀ x, x ∈ ys ↔ x ∈ (L.map fun q => q.2).flatten) → Q (.ref r) H'
theorem ok_merge_names {f : Addr} {fd : FuncData} (F : Fun K "merge_names" "merge_names" s_merge_names f fd) (m_set : mg "set" = none) (m_sorted : mg "sorted" = none) (m_tuple : mg "tuple" = none) : FnR P w K mg base CX0 1 f (spMerge K) := by
  have z := okStar (P := P) (w := w) (K := K) (mg := mg) (base := base) (sp := spMerge0 K) (k := 0) F sc_merge_names (fun _ _ _ _ _ _ rest => match rest with | [] => rfl | _ :: _ => rfl) (fun cdv A outer s H vs Q E hr h => ?_)
  · refine z.imp fun vs H Q E h => ?_
    obtain ⟨L, rfl, hL, hl, hn, q⟩ := h
    refine ⟨by rw [List.length_map]; exact sz (by omega), fun p np => ⟨p, L, rfl, sqt upd_same, fun x hx => (hL x hx).imp (Same.seq (same_new np)) (Bx.Same.tup (same_new np)), hn, fun r H' ys s1 n1 => q r H' ys ((same_new np).trans s1) ((same_new np).free n1)⟩⟩
  · obtain ⟨p, L, rfl, hT, hL, hn, q⟩ := h
    refine ⟨_, (pss_one (ps_ret (pe_callTy (T := "tuple") call_tuple_of (by rfl) m_tuple (by decide +kernel) (pa_cons (pe_callB (id := "sorted") (Sx.cr_sortX rfl) (by rfl) m_sorted (by decide +kernel) (pa_cons (pe_callTy (T := "set") (Sx.cr_setX rfl) (by rfl) m_set (by decide +kernel) (pa_cons (pe_lc2 (own := [("names", 1), ("name", 2)]) (vs1 := [2]) (wi1 := iSeq K (tVar 1)) (tt := tYes) (tt1 := tYes) rfl sc_merge_names.nd (pi_tup (pv 0)) (blkOk_by (N := n_merge_names) (sc := defScope s_merge_names) (by decide +kernel)) (by decide) (fun _ _ _ _ _ => pg_name (i := 1) sc_merge_names.nd rfl (Or.inl rfl)) (fun _ _ _ _ _ => pts_nil) (fun _ _ _ _ _ => (pi_seq (pv 1))) (fun _ _ _ _ _ => pg_name (i := 2) sc_merge_names.nd rfl (Or.inl rfl)) (fun _ _ _ _ _ => pts_nil) (fun _ _ _ _ _ => (pv 2))) pa_nil)) pa_nil)) pa_nil)))), ?_⟩
    walk_at "rd"
    refine ⟨⟨_, hT⟩, fun D hD => ?_⟩
    refine walk_any (walk_tup (K := K) (a := p) (xs := L.map fun q => V.ref q.1)) (fun i H' => Same H H' ∧ H' D = some (.lst (((L.take i).map fun q => q.2).flatten.map V.str))) ⟨same_new hD, by rw [upd_same]; rfl⟩ (fun i H' _ h => Bx.Same.tup h.1 hT) ?_ ?_
    · rintro i x H1 H2 hi ⟨hs, hd⟩ ⟨rfl, hx⟩
      rw [List.length_map] at hi
      obtain ⟨y, hy, rfl⟩ : ∃ y, L[i]? = some y ∧ x = .ref y.1 := by
        rw [List.getElem?_map, List.getElem?_eq_getElem hi] at hx
        exact ⟨_, List.getElem?_eq_getElem hi, (Option.some.inj hx).symm⟩
      refine ⟨rfl, ?_⟩
      have hy2 := hL y (List.mem_of_getElem? hy)
      have hfl : ((L.take (i + 1)).map fun q => q.2).flatten = ((L.take i).map fun q => q.2).flatten ++ y.2 := by
        rw [List.take_add_one, hy, List.map_append, List.flatten_append]
        simp
      have hle : ∀ j, (((L.take j).map fun q => q.2).flatten).length ≤ 3000 := fun j => by
        have e := List.take_append_drop j L
        have e2 : (L.map fun q => q.2).flatten.length = ((L.take j).map fun q => q.2).flatten.length + ((L.drop j).map fun q => q.2).flatten.length := by
          rw [← List.length_append, ← List.flatten_append, ← List.map_append, e]
        omega
      walk_at "rd"
      have hstep : ∀ (j : Nat) (x : V) (H1 : Hp), (y.2.map V.str)[j]? = some x → Same H H1 ∧ H1 D = some (.lst ((((L.take i).map fun q => q.2).flatten ++ y.2.take j).map V.str)) →
          ∃ acc, H1 D = some (.lst acc) ∧ acc.length < sizeLine ∧ Same H (upd H1 D (.lst (acc ++ [x]))) ∧ (upd H1 D (.lst (acc ++ [x]))) D = some (.lst ((((L.take i).map fun q => q.2).flatten ++ y.2.take (j + 1)).map V.str)) := by
        rintro j x H1 hj ⟨h1, h2⟩
        refine ⟨_, h2, ?_, same_at hD h1, ?_⟩
        · have e1 := hle (i + 1)
          rw [hfl, List.length_append] at e1
          rw [List.length_map, List.length_append, List.length_take]
          exact szl (by omega)
        · obtain ⟨u, hu, rfl⟩ : ∃ u, y.2[j]? = some u ∧ x = .str u := by
            rw [List.getElem?_map] at hj
            cases e : y.2[j]? with
            | none =>
              rw [e] at hj
              cases hj
            | some u =>
              rw [e] at hj
              exact ⟨u, rfl, (Option.some.inj hj).symm⟩
          rw [upd_same, List.take_add_one, hu, ← List.append_assoc, List.map_append (l₂ := (some u).toList)]
          rfl
      have hend : ∀ H1, Same H H1 ∧ H1 D = some (.lst ((((L.take i).map fun q => q.2).flatten ++ y.2.take (y.2.map V.str).length).map V.str)) → Same H H1 ∧ H1 D = some (.lst (((L.take (i + 1)).map fun q => q.2).flatten.map V.str)) := by
        rintro H1 ⟨h1, h2⟩
        rw [List.length_map, List.take_length, ← hfl] at h2
        exact ⟨h1, h2⟩
      have h0 : Same H H2 ∧ H2 D = some (.lst ((((L.take i).map fun q => q.2).flatten ++ y.2.take 0).map V.str)) := by
        rw [List.take_zero, List.append_nil]
        exact ⟨hs, hd⟩
      rcases hy2 with hl | ht
      · refine .inl ⟨⟨_, hs.seq hl⟩, walk_any walk_list (fun j H1 => Same H H1 ∧ H1 D = some (.lst ((((L.take i).map fun q => q.2).flatten ++ y.2.take j).map V.str))) h0 (fun j H' _ h => h.1.seq hl) ?_ hend⟩
        rintro j x H1 H' hj hp ⟨rfl, hx⟩
        refine ⟨rfl, ?_⟩
        walk_at "rd"
        exact hstep j x _ hx hp
      · refine .inr ⟨⟨_, Bx.Same.tup hs ht⟩, walk_any walk_tup (fun j H1 => Same H H1 ∧ H1 D = some (.lst ((((L.take i).map fun q => q.2).flatten ++ y.2.take j).map V.str))) h0 (fun j H' _ h => Bx.Same.tup h.1 ht) ?_ hend⟩
        rintro j x H1 H' hj hp ⟨rfl, hx⟩
        refine ⟨rfl, ?_⟩
        walk_at "rd"
        exact hstep j x _ hx hp
    · rintro H1 ⟨hs, hd⟩
      rw [List.length_map, List.take_length] at hd
      refine ⟨_, _, rfl, .inl (sq hd), by omega, fun p1 ys n1 hm nd hlen => ?_⟩
      refine ⟨_, _, rfl, upd_same, by omega, fun zs p2 pm hst n2 => ?_⟩
      refine ⟨_, _, rfl, .inl ⟨sq upd_same, fun r nr => ?_⟩⟩
      have s3 : Same H (upd (upd (upd H1 p1 (Sx.SetV P w p1 ys)) p2 (.lst (zs.map V.str))) r (.tup (zs.map V.str))) := ((hs.trans (same_new n1)).trans (same_new n2)).trans (same_new nr)
      refine q r _ zs s3 (((hs.trans (same_new n1)).trans (same_new n2)).free nr) upd_same hst (pm.nodup_iff.mpr nd) fun x => ?_
      rw [pm.mem_iff, hm x]

end
end K02
namespace K02
local macro_rules | `(tactic| walk_at "rd") => `(tactic| repeat (first | refine ⟨rfl, ?_⟩ | refine ⟨_, rfl, ?_⟩ | refine ⟨_, _, rfl, rfl, ?_⟩ | refine ⟨⟨_, rfl⟩, ?_⟩))
open PySem PySem.Spec PyProof.Rows L2 Bx TL Dx Zx Ow Sup Er NdefX Px
section
variable {P : Program} {w : World} {K : PySem.W.Frag} {mg : Str → Option Value} {base : Heap}
/-! ### InvalidName, InvalidPart -/
def okS (v : V) : Prop := ∃ y : Str, v = .str y ∧ (reprText y).length ≤ 1000
theorem app_len (x y : Str) : (x ++ y).length = x.length + y.length := by
  rw [len_tl, tl_append, List.length_append, ← len_tl, ← len_tl]
abbrev nf_InvalidName (cc cda : Addr) : NF := ⟨"__init__", "InvalidName.__init__", defArgs s_InvalidName___init__, defBody s_InvalidName___init__, defScope s_InvalidName___init__, [(("__class__" : Str), cc)], cda⟩
theorem ok_InvalidName {fI cc cda C : Addr} {oc kV doc pm ct : Value} {od an : Option Addr} {osl : Array (Option Value)}
    (lk : K.lookup fI = some ⟨oc, od, .func (PySem.W.fnX "__init__" "InvalidName.__init__" (defArgs s_InvalidName___init__) (defBody s_InvalidName___init__) (defScope s_InvalidName___init__) [(("__class__" : Str), cc)] .none kV doc pm an (.ref cda) ct), osl⟩) (hcd : PySem.W.codeIn K (.ref cda) "InvalidName.__init__" = true)
    (hcc : ∃ cl cld csl, K.lookup cc = some ⟨cl, cld, .cell (some (.ref C)), csl⟩)
    (hco : ∃ (ccl : Value) (cdd : Option Addr) (vs : Array Value) (ccs : Array (Option Value)) (file : Str) (tf : Tok), K.lookup cda = some ⟨ccl, cdd, .fields vs, ccs⟩ ∧ vs[2]? = some (.str file tf) ∧ ((P.main.file : Str) == file) = true)
    (htop : (P.main.scope.names.lookup ("super" : Str)).isSome = false) (m_super : mg "super" = none) (hany : PySem.W.nsIn K cStatics "thirdparty.any" = some none) (T : SupC K C C) (no : PySem.W.findIn K (.ref C) "name" = some none) :
    FnOk P w K mg base CX0 1 fI (PySem.W.fnX "__init__" "InvalidName.__init__" (defArgs s_InvalidName___init__) (defBody s_InvalidName___init__) (defScope s_InvalidName___init__) [(("__class__" : Str), cc)] .none kV doc pm an (.ref cda) ct) ["self", "name"] (spErr okS C "name") := by
  obtain ⟨ccl, cdd, vs, ccs, file, tf, lc, hvs, hfile⟩ := hco
  obtain ⟨cl, cld, csl, lcc⟩ := hcc
  refine fn_sup (F := nf_InvalidName cc cda) (k := 0) (self := "self") lk hcd rfl ⟨cl, cld, csl, lcc⟩ ns_InvalidName___init__
    (fun L => ⟨rfl, rfl, ⟨fI, _, _, _, _, _, rfl, lk, rfl, rfl⟩, ⟨cda, ccl, cdd, vs, ccs, file, tf, rfl, lc, hvs, hfile⟩, htop, ⟨cc, cl, cld, csl, rfl, lcc⟩, m_super, hany, rfl, rfl⟩) rfl rfl
    (fun vs H Q E h => ?_) (fun A outer s H vs Q E hr h => ?_)
  · obtain ⟨a, v, rfl, _⟩ := h
    rfl
  · obtain ⟨a, v, rfl, ⟨y, rfl, hy⟩, ea, q⟩ := h
    refine ⟨a, C, _, _, T, rfl, ea, (pa_cons (pe_joined (.cons (pe_fmtR (pv 1)) (.cons pe_str .nil))) pa_nil), (pss_one (ps_ost (pv 0) (pv 1))), fun u nu => ?_⟩
    have hua : u ≠ a := fun e => by rw [e, ea] at nu; cases nu
    have l0 : Str.empty.length = 0 := rfl
    walk_at "rd"
    refine .inl ⟨y, rfl, sz (by omega), ?_⟩
    refine ⟨_, rfl, sz ?_, ?_⟩
    · rw [app_len, l0]
      omega
    refine ⟨_, rfl, sz ?_, ?_⟩
    · rw [app_len, app_len, l0, show (Str.ofString " is not a name").length = 14 by decide +kernel]
      omega
    refine ⟨by show 1 ≤ 1000; decide, upd_same, by rw [upd_ne hua.symm]; exact ea, ?_⟩
    walk_at "rd"
    refine ⟨a, C, rfl, T.exc, no, .inl ⟨by rw [upd_ne hua.symm]; exact ea, fun dx nd da => ?_⟩⟩
    have ndu : dx ≠ u := fun e => by rw [e, upd_same] at nd; cases nd
    have nd0 : H dx = none := by rw [upd_ne ndu] at nd; exact nd
    refine q dx _ (fun b o hb e => ?_) nd0 da upd_same ?_
    · rw [upd_ne hb, upd_ne (ne_of_none e nd0), upd_ne (ne_of_none e nu)]
      exact e
    · rw [upd_ne da, upd_same]
abbrev nf_InvalidPart (cc cda : Addr) : NF := ⟨"__init__", "InvalidPart.__init__", defArgs s_InvalidPart___init__, defBody s_InvalidPart___init__, defScope s_InvalidPart___init__, [(("__class__" : Str), cc)], cda⟩
theorem ok_InvalidPart {fI cc cda C : Addr} {oc kV doc pm ct : Value} {od an : Option Addr} {osl : Array (Option Value)}
    (lk : K.lookup fI = some ⟨oc, od, .func (PySem.W.fnX "__init__" "InvalidPart.__init__" (defArgs s_InvalidPart___init__) (defBody s_InvalidPart___init__) (defScope s_InvalidPart___init__) [(("__class__" : Str), cc)] .none kV doc pm an (.ref cda) ct), osl⟩) (hcd : PySem.W.codeIn K (.ref cda) "InvalidPart.__init__" = true)
    (hcc : ∃ cl cld csl, K.lookup cc = some ⟨cl, cld, .cell (some (.ref C)), csl⟩)
    (hco : ∃ (ccl : Value) (cdd : Option Addr) (vs : Array Value) (ccs : Array (Option Value)) (file : Str) (tf : Tok), K.lookup cda = some ⟨ccl, cdd, .fields vs, ccs⟩ ∧ vs[2]? = some (.str file tf) ∧ ((P.main.file : Str) == file) = true)
    (htop : (P.main.scope.names.lookup ("super" : Str)).isSome = false) (m_super : mg "super" = none) (hany : PySem.W.nsIn K cStatics "thirdparty.any" = some none) (T : SupC K C C) (no : PySem.W.findIn K (.ref C) "name" = some none) :
    FnOk P w K mg base CX0 1 fI (PySem.W.fnX "__init__" "InvalidPart.__init__" (defArgs s_InvalidPart___init__) (defBody s_InvalidPart___init__) (defScope s_InvalidPart___init__) [(("__class__" : Str), cc)] .none kV doc pm an (.ref cda) ct) ["self", "name"] (spErr okS C "name") := by
  obtain ⟨ccl, cdd, vs, ccs, file, tf, lc, hvs, hfile⟩ := hco
  obtain ⟨cl, cld, csl, lcc⟩ := hcc
  refine fn_sup (F := nf_InvalidPart cc cda) (k := 0) (self := "self") lk hcd rfl ⟨cl, cld, csl, lcc⟩ ns_InvalidPart___init__
    (fun L => ⟨rfl, rfl, ⟨fI, _, _, _, _, _, rfl, lk, rfl, rfl⟩, ⟨cda, ccl, cdd, vs, ccs, file, tf, rfl, lc, hvs, hfile⟩, htop, ⟨cc, cl, cld, csl, rfl, lcc⟩, m_super, hany, rfl, rfl⟩) rfl rfl
    (fun vs H Q E h => ?_) (fun A outer s H vs Q E hr h => ?_)
  · obtain ⟨a, v, rfl, _⟩ := h
    rfl
  · obtain ⟨a, v, rfl, ⟨y, rfl, hy⟩, ea, q⟩ := h
    refine ⟨a, C, _, _, T, rfl, ea, (pa_cons (pe_joined (.cons pe_str (.cons (pe_fmtR (pv 1)) (.cons pe_str .nil)))) pa_nil), (pss_one (ps_ost (pv 0) (pv 1))), fun u nu => ?_⟩
    have hua : u ≠ a := fun e => by rw [e, ea] at nu; cases nu
    have l0 : Str.empty.length = 0 := rfl
    walk_at "rd"
    refine ⟨sz (by decide +kernel), ?_⟩
    refine ⟨_, rfl, .inl ⟨y, rfl, sz (by omega), ?_⟩⟩
    refine ⟨_, rfl, sz ?_, ?_⟩
    · rw [app_len, app_len, l0, show (Str.ofString "the name ").length = 9 by decide +kernel]
      omega
    refine ⟨_, rfl, sz ?_, ?_⟩
    · rw [app_len, app_len, app_len, l0, show (Str.ofString "the name ").length = 9 by decide +kernel, show (Str.ofString " does not fit").length = 13 by decide +kernel]
      omega
    refine ⟨by show 1 ≤ 1000; decide, upd_same, by rw [upd_ne hua.symm]; exact ea, ?_⟩
    walk_at "rd"
    refine ⟨a, C, rfl, T.exc, no, .inl ⟨by rw [upd_ne hua.symm]; exact ea, fun dx nd da => ?_⟩⟩
    have ndu : dx ≠ u := fun e => by rw [e, upd_same] at nd; cases nd
    have nd0 : H dx = none := by rw [upd_ne ndu] at nd; exact nd
    refine q dx _ (fun b o hb e => ?_) nd0 da upd_same ?_
    · rw [upd_ne hb, upd_ne (ne_of_none e nd0), upd_ne (ne_of_none e nu)]
      exact e
    · rw [upd_ne da, upd_same]
end
end K02
namespace K02
local macro_rules | `(tactic| walk_at "rd") => `(tactic| repeat (first | refine ⟨rfl, ?_⟩ | refine ⟨_, rfl, ?_⟩ | refine ⟨_, _, rfl, rfl, ?_⟩ | refine ⟨⟨_, rfl⟩, ?_⟩))
open PySem PySem.Spec PyProof.Rows L2 Bx TL Dx Zx Ow Sup Er NdefX Px
open M02 (Dup)
/-- what all names of the law keep -/
def okZ (z : Str) : Bool := decide (z.length ≤ 60) && decide ((Txt.split z ".").length ≤ 60) && (Txt.split z ".").all (fun p => decide (p.length ≤ 60)) && decide ((reprText z).length ≤ 1000) && PyData.strOk z
structure OkZ (z : Str) : Prop where
  l : z.length ≤ 60
  n : (Txt.split z ".").length ≤ 60
  p : ∀ p ∈ Txt.split z ".", p.length ≤ 60
  r : (reprText z).length ≤ 1000
  s : PyData.strOk z = true
theorem okZ_of {z : Str} (h : okZ z = true) : OkZ z := by
  unfold okZ at h
  simp only [Bool.and_eq_true, decide_eq_true_eq, List.all_eq_true] at h
  exact ⟨h.1.1.1.1, h.1.1.1.2, h.1.1.2, h.1.2, h.2⟩
def plainB (z : Str) : Bool := okName (tl z)
def fullB (z : Str) : Bool := (Txt.split z ".").all fun p => okName (tl p)
def badN (nm : Str) (sh hd : List Str) : Option Str := ((nm :: sh).find? fun z => !plainB z).or (hd.find? fun z => !fullB z)
def NmS (K : PySem.W.Frag) (H : Hp) (a : Addr) (ns : List Str) : Prop := SqL K H a (ns.map V.str) ∨ SqT K H a (ns.map V.str)
theorem NmS.same {K : PySem.W.Frag} {H H' : Hp} {a : Addr} {ns : List Str} (s : Same H H') (h : NmS K H a ns) : NmS K H' a ns := h.imp (Same.seq s) (Bx.Same.tup s)
theorem find_first {p : Str → Bool} {l : List Str} {i : Nat} {z : Str} (hz : l[i]? = some z) (hp : p z = true) (no : ∀ j y, j < i → l[j]? = some y → p y = false) : l.find? p = some z := by
  induction l generalizing i with
  | nil => cases hz
  | cons x l ih =>
    cases i with
    | zero =>
      cases hz
      rw [List.find?_cons, hp]
    | succ i =>
      rw [List.find?_cons, no 0 x (Nat.succ_pos _) rfl]
      exact ih hz fun j y hj h => no (j + 1) y (Nat.succ_lt_succ hj) h
theorem find_no {p : Str → Bool} {l : List Str} (no : ∀ (j : Nat) y, l[j]? = some y → p y = false) : l.find? p = none := List.find?_eq_none.mpr fun x hx => by
  obtain ⟨j, hj⟩ := List.mem_iff_getElem?.mp hx
  rw [no j x hj]
  exact Bool.false_ne_true
section
variable {P : Program} {w : World} {K : PySem.W.Frag} {mg : Str → Option Value} {base : Heap}
/-- the error of the class at C with the name z -/
def XN (E : XK) (H : Hp) (C : Addr) (z : Str) : Prop := ∀ d H', Same H H' → H' d = some (.xd [("name", .str z)]) → E (.ref C) (some d) H'
@[irreducible] def spChkN (K : PySem.W.Frag) (CN : Addr) : Sp := fun vs H Q E => ∃ (nm : Str) (a b : Addr) (sh hd : List Str), vs = [.str nm, .ref a, .ref b] ∧ NmS K H a sh ∧ NmS K H b hd ∧ sh.length ≤ 20 ∧ hd.length ≤ 20 ∧ OkZ nm ∧ (∀ z ∈ sh, OkZ z) ∧ (∀ z ∈ hd, OkZ z) ∧
  (badN nm sh hd = none → ∀ H', Same H H' → Q .non H') ∧ (∀ z, badN nm sh hd = some z → XN E H CN z)
theorem ok_check_names {CN : Addr} {f : Addr} {fd : FuncData} (F : Fun K "_check_names" "_check_names" s__check_names f fd) (C_is_name : Cal P w K mg base "is_name" 1 ["text"] spIsName) (C_is_full_name : Cal P w K mg base "is_full_name" 2 ["text"] spFull)
    (E_InvalidName : Err P w K mg base "InvalidName" CN "name" "name" okS 1) : FnOk P w K mg base (L2.CX P w) 4 f fd ["name", "shown", "hidden"] (spChkN K CN) := by
  refine F.okX sc__check_names (fun vs H Q E h => ?_) (fun cdv A outer s H vs Q E hr h => ?_)
  · unfold spChkN at h
    obtain ⟨nm, a, b, sh, hd, rfl, _⟩ := h
    rfl
  · unfold spChkN at h
    obtain ⟨nm, a, b, sh, hd, rfl, ha, hb, hl1, hl2, kn, ks, kh, q1, q2⟩ := h
    refine ⟨_, (pss_cons (ps_for (passes_of rfl) rfl (pi_list (pe_lst (pa_cons (pv 0) (StX.pa_star (pv 1) pa_nil)))) (pg_name (i := 3) sc__check_names.nd rfl (Or.inl rfl))
      (pss_one (ps_if (pt_not (pt_val (pe_cal C_is_name (hr.mono (by decide)) (pa_cons (pv 3) pa_nil))))
      (pss_one (ps_raiseE E_InvalidName rfl (takes_of rfl rfl rfl rfl) (hr.mono (by decide)) (pv 3)))
      pss_nil)))
    (pss_one (ps_for (passes_of rfl) rfl (pi_seq (pv 2)) (pg_name (i := 4) sc__check_names.nd rfl (Or.inl rfl))
      (pss_one (ps_if (pt_not (pt_val (pe_cal C_is_full_name (hr.mono (by decide)) (pa_cons (pv 4) pa_nil))))
      (pss_one (ps_raiseE E_InvalidName rfl (takes_of rfl rfl rfl rfl) (hr.mono (by decide)) (pv 4)))
      pss_nil))))), ?_⟩
    walk_at "rd"
    refine ⟨a, _, rfl, ha.symm, ?_⟩
    refine ⟨sz (by rw [List.append_nil]; show (sh.map V.str).length + 1 ≤ 100000; rw [List.length_map]; omega), fun L nL => ?_⟩
    rw [List.append_nil]
    have sL := same_new nL (o := .lst (V.str nm :: sh.map V.str))
    have hL : (upd H L (.lst (V.str nm :: sh.map V.str))) L = some (.lst ((nm :: sh).map V.str)) := upd_same
    generalize upd H L (.lst (V.str nm :: sh.map V.str)) = H1 at sL hL ⊢
    have hb1 := hb.same sL
    walk_at "rd"
    refine ⟨⟨_, sq hL⟩, for_it walk_list (fun i σ H' => ∃ o3 o4 : Option V, σ = [some (.str nm), some (.ref a), some (.ref b), o3, o4] ∧ Same H1 H' ∧ ∀ j y, j < i → (nm :: sh)[j]? = some y → (!plainB y) = false) ⟨none, none, rfl, Same.refl _, fun j y hj => absurd hj (Nat.not_lt_zero _)⟩
      (fun i σ H' _ ⟨_, _, _, s, _⟩ => sq (s _ _ hL)) ?_ ?_⟩
    · rintro i v σ H2 H2' hi ⟨o3, o4, rfl, s2, no⟩ ⟨rfl, hx⟩
      obtain ⟨z, hz, rfl⟩ := at_map (l := nm :: sh) hx
      have kz : OkZ z := by
        rcases List.mem_cons.mp (List.mem_of_getElem? hz) with rfl | h
        · exact kn
        · exact ks z h
      walk_at "rd"
      refine ⟨by have := kz.l; omega, fun H3 s3 => ?_⟩
      refine ⟨_, rfl, ite2 (fun h0 => ?_) (fun h0 => ?_)⟩
      · walk_at "rd"
        have hb2 : badN nm sh hd = some z := by
          unfold badN
          rw [find_first hz h0 no]
          rfl
        refine ⟨⟨z, rfl, kz.r⟩, fun d H4 s4 nd hd4 => ?_⟩
        exact q2 z hb2 d H4 (Same.trans sL (Same.trans s2 (Same.trans s3 s4))) hd4
      · refine ⟨_, _, rfl, Same.trans s2 s3, fun j y hj hy => ?_⟩
        rcases Nat.lt_succ_iff_lt_or_eq.mp hj with h | h
        · exact no j y h hy
        · rw [h, hz] at hy
          cases hy
          exact Bool.eq_false_iff.mpr h0
    · rintro σ H2 ⟨o3, o4, rfl, s2, no⟩
      have none1 : (nm :: sh).find? (fun z => !plainB z) = none := find_no fun j y hy => no j y (by rw [List.length_map]; exact (List.getElem?_eq_some_iff.mp hy).1) hy
      have s12 := Same.trans sL s2
      walk_at "rd"
      refine seq_case (hb1.same s2) fun J G wk hG => for_it wk (fun i σ H' => ∃ o3 o4 : Option V, σ = [some (.str nm), some (.ref a), some (.ref b), o3, o4] ∧ Same H2 H' ∧ ∀ j y, j < i → hd[j]? = some y → (!fullB y) = false) ⟨_, _, rfl, Same.refl _, fun j y hj => absurd hj (Nat.not_lt_zero _)⟩
        (fun i σ H' _ ⟨_, _, _, s, _⟩ => hG H' s) ?_ ?_
      · rintro i v σ H3 H3' hi ⟨o3, o4, rfl, s3, no2⟩ ⟨rfl, hx⟩
        obtain ⟨z, hz, rfl⟩ := at_map hx
        have kz := kh z (List.mem_of_getElem? hz)
        walk_at "rd"
        refine ⟨by have := kz.l; omega, fun p hp => by have := kz.p p hp; omega, by have := kz.n; omega, fun H4 s4 => ?_⟩
        refine ⟨_, rfl, ite2 (fun h0 => ?_) (fun h0 => ?_)⟩
        · walk_at "rd"
          have hb2 : badN nm sh hd = some z := by
            unfold badN
            rw [none1, find_first hz h0 no2]
            rfl
          refine ⟨⟨z, rfl, kz.r⟩, fun d H5 s5 nd hd5 => ?_⟩
          exact q2 z hb2 d H5 (Same.trans s12 (Same.trans s3 (Same.trans s4 s5))) hd5
        · refine ⟨_, _, rfl, Same.trans s3 s4, fun j y hj hy => ?_⟩
          rcases Nat.lt_succ_iff_lt_or_eq.mp hj with h | h
          · exact no2 j y h hy
          · rw [h, hz] at hy
            cases hy
            exact Bool.eq_false_iff.mpr h0
      · rintro σ H3 ⟨o3, o4, rfl, s3, no2⟩
        refine q1 ?_ _ (Same.trans s12 s3)
        unfold badN
        rw [none1, find_no fun j y hy => no2 j y (by rw [List.length_map]; exact (List.getElem?_eq_some_iff.mp hy).1) hy]
        rfl
@[irreducible] def spChkS (K : PySem.W.Frag) (CP : Addr) : Sp := fun vs H Q E => ∃ (a : Addr) (ns : List Str), vs = [.ref a] ∧ SqL K H a (ns.map V.str) ∧ ns.length ≤ 60 ∧ (∀ z ∈ ns, OkZ z) ∧ (ns.Nodup → ∀ H', Same H H' → Q .non H') ∧ (∀ z, Dup ns z → XN E H CP z)
theorem ok_check_single {CP : Addr} {f : Addr} {fd : FuncData} (F : Fun K "_check_single" "_check_single" s__check_single f fd) (C_merge_names : CalR P w K mg base "merge_names" 1 (spMerge K)) (E_InvalidPart : Err P w K mg base "InvalidPart" CP "name" "name" okS 1) :
    FnOk P w K mg base (L2.CX P w) 3 f fd ["names"] (spChkS K CP) := by
  refine F.okX sc__check_single (fun vs H Q E h => ?_) (fun cdv A outer s H vs Q E hr h => ?_)
  · unfold spChkS at h
    obtain ⟨a, ns, rfl, _⟩ := h
    rfl
  · unfold spChkS at h
    obtain ⟨a, ns, rfl, ha, hl, kz, q1, q2⟩ := h
    refine ⟨_, (pss_one (ps_for (passes_of rfl) rfl (pi_tup (pe_calR C_merge_names (hr.mono (by decide)) (pa_cons (pv 0) pa_nil))) (pg_name (i := 1) sc__check_single.nd rfl (Or.inl rfl))
      (pss_one (ps_if (pt_cmpR op_gt (pe_bm PySem.F.plainAttrs_list PySem.F.slot_list_count PySem.F.type_list_count (mt_lcountS (room hr)) (pv 0) (pa_cons (pv 1) pa_nil)) pe_int (nomark _))
      (pss_one (ps_raiseE E_InvalidPart rfl (takes_of rfl rfl rfl rfl) (hr.mono (by decide)) (pv 1)))
      pss_nil)))), ?_⟩
    walk_at "rd"
    refine ⟨[(a, ns)], rfl, (fun q hq => by rw [List.mem_singleton.mp hq]; exact .inl ha), (by show 1 ≤ 1000; decide), (by simp; omega), fun r H1 ys s1 nr hr1 st nd mem => ?_⟩
    have mem2 : ∀ x, x ∈ ys ↔ x ∈ ns := fun x => (mem x).trans (by simp)
    have asc := asc_of st nd
    walk_at "rd"
    refine ⟨⟨_, sqt hr1⟩, for_it walk_tup (fun i σ H' => ∃ o1 : Option V, σ = [some (.ref a), o1] ∧ Same H1 H' ∧ ∀ j y, j < i → ys[j]? = some y → ¬ 1 < ns.count y) ⟨none, rfl, Same.refl _, fun j y hj => absurd hj (Nat.not_lt_zero _)⟩ (fun i σ H' _ ⟨_, _, s, _⟩ => Bx.Same.tup s (sqt hr1)) ?_ ?_⟩
    · rintro i v σ H2 H2' hi ⟨o1, rfl, s2, no⟩ ⟨rfl, hx⟩
      obtain ⟨z, hz, rfl⟩ := at_map hx
      have hz2 := kz z ((mem2 z).mp (List.mem_of_getElem? hz))
      walk_at "rd"
      refine ⟨.inl ⟨rfl, _, Same.seq (Same.trans s1 s2) ha⟩, ?_⟩
      walk_at "rd"
      refine ⟨a, ns, z, rfl, rfl, Same.seq (Same.trans s1 s2) ha, ?_⟩
      walk_at "rd"
      refine ite2 (fun h0 => ?_) (fun h0 => ?_)
      · have c : 1 < ns.count z := by
          have : (1 : Int) < (ns.count z : Nat) := of_decide_eq_true h0
          omega
        walk_at "rd"
        refine ⟨⟨z, rfl, hz2.r⟩, fun d H3 s3 n3 hd3 => ?_⟩
        exact q2 z (M02.dup_first asc mem2 hz no c) d H3 (Same.trans s1 (Same.trans s2 s3)) hd3
      · refine ⟨_, rfl, s2, fun j y hj hy => ?_⟩
        rcases Nat.lt_succ_iff_lt_or_eq.mp hj with h | h
        · exact no j y h hy
        · rw [h, hz] at hy
          cases hy
          exact fun c => h0 (decide_eq_true (by omega))
    · rintro σ H2 ⟨o1, rfl, s2, no⟩
      refine q1 (M02.nodup_count fun y hy => ?_) _ (Same.trans s1 s2)
      obtain ⟨j, hj⟩ := List.mem_iff_getElem?.mp ((mem2 y).mpr hy)
      exact no j y (by rw [List.length_map]; exact (List.getElem?_eq_some_iff.mp hj).1) hj
end
end K02
namespace K02
local macro_rules | `(tactic| walk_at "rd") => `(tactic| repeat (first | refine ⟨rfl, ?_⟩ | refine ⟨_, rfl, ?_⟩ | refine ⟨_, _, rfl, rfl, ?_⟩ | refine ⟨⟨_, rfl⟩, ?_⟩))
open PySem PySem.Spec PyProof.Rows L2 Bx TL Dx Zx Ow Sup Er NdefX Px
open M02 (Dup)
section
variable {P : Program} {w : World} {K : PySem.W.Frag} {mg : Str → Option Value} {base : Heap}
/-! ### data of tuples, texts and ints: what keeps the tuples keeps them -/
mutual
def tupD : PyData → Bool
  | .str _ => true
  | .int _ => true
  | .tuple ds => tupAll ds
  | _ => false
def tupAll : List PyData → Bool
  | [] => true
  | d :: ds => tupD d && tupAll ds
end
def Tk (K : PySem.W.Frag) (H H' : Hp) : Prop := ∀ a xs, SqT K H a xs → SqT K H' a xs
theorem tk_same {H H' : Hp} (s : Same H H') : Tk K H H' := fun _ _ h => Bx.Same.tup s h
theorem Tk.trans {H H1 H2 : Hp} (a : Tk K H H1) (b : Tk K H1 H2) : Tk K H H2 := fun _ _ h => b _ _ (a _ _ h)
theorem tk_ins {H : Hp} {p C dx : Addr} {fs : List (Str × V)} {o : HO} (hp : H p = some (.ins C dx fs)) : Tk K H (upd H p o) := fun a xs h => by
  rcases h with (h | ⟨u, h⟩) | h
  · exact .inl (.inl (by rw [upd_ne fun z => by rw [z, hp] at h; cases h]; exact h))
  · exact .inl (.inr ⟨u, by rw [upd_ne fun z => by rw [z, hp] at h; cases h]; exact h⟩)
  · exact .inr h
theorem tk_lst {H : Hp} {p : Addr} {ys : List V} {o : HO} (hp : H p = some (.lst ys)) : Tk K H (upd H p o) := fun a xs h => by
  rcases h with (h | ⟨u, h⟩) | h
  · exact .inl (.inl (by rw [upd_ne fun z => by rw [z, hp] at h; cases h]; exact h))
  · exact .inl (.inr ⟨u, by rw [upd_ne fun z => by rw [z, hp] at h; cases h]; exact h⟩)
  · exact .inr h
mutual
theorem dp_tk {H H' : Hp} (tk : Tk K H H') : ∀ (d : PyData) (v : V), tupD d = true → Dp K H v d → Dp K H' v d
  | .str _, _, _, h => by
    cases h
    exact .str _
  | .int _, _, _, h => by
    cases h
    exact .int _
  | .tuple ds, _, e, h => by
    cases h with
    | tup hs ha => exact .tup (tk _ _ hs) (da_tk tk ds _ e ha)
  | .none, _, e, _ => by cases e
  | .bool _, _, e, _ => by cases e
  | .list _, _, e, _ => by cases e
  | .dict _, _, e, _ => by cases e
theorem da_tk {H H' : Hp} (tk : Tk K H H') : ∀ (ds : List PyData) (vs : List V), tupAll ds = true → DpAll K H vs ds → DpAll K H' vs ds
  | [], _, _, h => by
    cases h
    exact .nil
  | d :: ds, _, e, h => by
    have e2 : (tupD d && tupAll ds) = true := e
    rw [Bool.and_eq_true] at e2
    cases h with
    | cons h1 h2 => exact .cons (dp_tk tk d _ e2.1 h1) (da_tk tk ds _ e2.2 h2)
end
/-! ### the object's fields -/
theorem lk_here {k : Str} {v : V} {r : List (Str × V)} : List.lookup k ((k, v) :: r) = some v := by
  have e : (k == k) = true := beq_self_eq_true k
  simp only [List.lookup, e]
theorem lk_past {k g : Str} {v : V} {r : List (Str × V)} (h : (k == g) = false) : List.lookup k ((g, v) :: r) = List.lookup k r := by
  simp only [List.lookup, h]
theorem put_past {f g : Str} {v x : V} {r : List (Str × V)} (h : ¬ g = f) : putF f v ((g, x) :: r) = (g, x) :: putF f v r := if_neg h
abbrev f1 (wd : Str) : List (Str × V) := [("word", .str wd)]
abbrev f2 (wd nm : Str) : List (Str × V) := [("word", .str wd), ("name", .str nm)]
abbrev f3 (wd nm : Str) (a : Addr) : List (Str × V) := [("word", .str wd), ("name", .str nm), ("shown", .ref a)]
abbrev f4 (wd nm : Str) (a b : Addr) : List (Str × V) := [("word", .str wd), ("name", .str nm), ("shown", .ref a), ("hidden", .ref b)]
abbrev f5 (wd nm : Str) (a b c : Addr) : List (Str × V) := [("word", .str wd), ("name", .str nm), ("shown", .ref a), ("hidden", .ref b), ("constraints", .ref c)]
theorem p2 (wd nm : Str) : putF "name" (.str nm) (f1 wd) = f2 wd nm := put_past (by decide +kernel)
theorem p3 (wd nm : Str) (a : Addr) : putF "shown" (.ref a) (f2 wd nm) = f3 wd nm a := (put_past (by decide +kernel)).trans (congrArg _ (put_past (by decide +kernel)))
theorem p4 (wd nm : Str) (a b : Addr) : putF "hidden" (.ref b) (f3 wd nm a) = f4 wd nm a b := (put_past (by decide +kernel)).trans (congrArg _ ((put_past (by decide +kernel)).trans (congrArg _ (put_past (by decide +kernel)))))
theorem p5 (wd nm : Str) (a b c : Addr) : putF "constraints" (.ref c) (f4 wd nm a b) = f5 wd nm a b c := (put_past (by decide +kernel)).trans (congrArg _ ((put_past (by decide +kernel)).trans (congrArg _ ((put_past (by decide +kernel)).trans (congrArg _ (put_past (by decide +kernel)))))))
theorem gW (wd nm : Str) (a b c : Addr) : (f5 wd nm a b c).lookup ("word" : Str) = some (.str wd) := lk_here
theorem gN (wd nm : Str) (a b c : Addr) : (f5 wd nm a b c).lookup ("name" : Str) = some (.str nm) := (lk_past (by decide +kernel)).trans lk_here
theorem gS (wd nm : Str) (a b c : Addr) : (f5 wd nm a b c).lookup ("shown" : Str) = some (.ref a) := (lk_past (by decide +kernel)).trans ((lk_past (by decide +kernel)).trans lk_here)
theorem gH (wd nm : Str) (a b c : Addr) : (f5 wd nm a b c).lookup ("hidden" : Str) = some (.ref b) := (lk_past (by decide +kernel)).trans ((lk_past (by decide +kernel)).trans ((lk_past (by decide +kernel)).trans lk_here))
theorem gC (wd nm : Str) (a b c : Addr) : (f5 wd nm a b c).lookup ("constraints" : Str) = some (.ref c) := (lk_past (by decide +kernel)).trans ((lk_past (by decide +kernel)).trans ((lk_past (by decide +kernel)).trans ((lk_past (by decide +kernel)).trans lk_here)))
structure CF (K : PySem.W.Frag) (C : Addr) : Prop where
  cl : Cls K C
  n1 : NoAttr K C "word"
  n2 : NoAttr K C "name"
  n3 : NoAttr K C "shown"
  n4 : NoAttr K C "hidden"
  n5 : NoAttr K C "constraints"
/-- the part at p -/
def PartAt (K : PySem.W.Frag) (C : Addr) (H : Hp) (p : Addr) (wd nm : Str) (sh hd : List Str) (ds : List PyData) : Prop :=
  ∃ dx a b c zs, H p = some (.ins C dx (f5 wd nm a b c)) ∧ SqT K H a (sh.map V.str) ∧ SqT K H b (hd.map V.str) ∧ SqT K H c zs ∧ DpAll K H zs ds
theorem PartAt.mono {C : Addr} {H H' : Hp} {p : Addr} {wd nm : Str} {sh hd : List Str} {ds : List PyData} (td : tupAll ds = true) (e : ∀ o, H p = some o → H' p = some o) (tk : Tk K H H') (h : PartAt K C H p wd nm sh hd ds) : PartAt K C H' p wd nm sh hd ds := by
  obtain ⟨dx, a, b, c, zs, h1, h2, h3, h4, h5⟩ := h
  exact ⟨dx, a, b, c, zs, e _ h1, tk _ _ h2, tk _ _ h3, tk _ _ h4, da_tk tk ds _ td h5⟩
theorem PartAt.same {C : Addr} {H H' : Hp} {p : Addr} {wd nm : Str} {sh hd : List Str} {ds : List PyData} (s : Same H H') (h : PartAt K C H p wd nm sh hd ds) : PartAt K C H' p wd nm sh hd ds := by
  obtain ⟨dx, a, b, c, zs, h1, h2, h3, h4, h5⟩ := h
  exact ⟨dx, a, b, c, zs, s _ _ h1, Bx.Same.tup s h2, Bx.Same.tup s h3, Bx.Same.tup s h4, dpAll_same s h5⟩
/-- the error of the class at C with the name z, where p may have changed -/
def XB (E : XK) (p : Addr) (H : Hp) (C : Addr) (z : Str) : Prop := ∀ d H', SameBut p H H' → H' d = some (.xd [("name", .str z)]) → E (.ref C) (some d) H'
@[irreducible] def spInit (K : PySem.W.Frag) (C CN CP : Addr) : Sp := fun vs H Q E => ∃ (p dx a b c : Addr) (wd nm : Str) (sh hd : List Str) (zs : List V) (ds : List PyData), vs = [.ref p, .str wd, .str nm, .ref a, .ref b, .ref c] ∧ H p = some (.ins C dx []) ∧
  NmS K H a sh ∧ NmS K H b hd ∧ sh.length ≤ 20 ∧ hd.length ≤ 20 ∧ OkZ nm ∧ (∀ z ∈ sh, OkZ z) ∧ (∀ z ∈ hd, OkZ z) ∧ (SqL K H c zs ∨ SqT K H c zs) ∧ zs.length ≤ 100 ∧ DpAll K H zs ds ∧ tupAll ds = true ∧
  (badN nm sh hd = none → (sh ++ hd).Nodup → ∀ H' s' t', Asc s' → Asc t' → (∀ x, x ∈ s' ↔ x ∈ sh) → (∀ x, x ∈ t' ↔ x ∈ hd) → PartAt K C H' p wd nm s' t' ds → SameBut p H H' → Q .non H') ∧
  (∀ z, badN nm sh hd = some z → XB E p H CN z) ∧ (badN nm sh hd = none → ∀ z, Dup (sh ++ hd) z → XB E p H CP z)
theorem ok_init {C CN CP : Addr} (cf : K02.CF K C) {f : Addr} {fd : FuncData} (F : Fun K "__init__" "Part.__init__" s_Part___init__ f fd) (m_tuple : mg "tuple" = none) (C_merge_names : CalR P w K mg base "merge_names" 1 (spMerge K))
    (C__check_names : CalE P w K mg base "_check_names" 4 ["name", "shown", "hidden"] (spChkN K CN)) (C__check_single : CalE P w K mg base "_check_single" 3 ["names"] (spChkS K CP)) :
    FnOk P w K mg base (L2.CX P w) 5 f fd ["self", "word", "name", "shown", "hidden", "constraints"] (spInit K C CN CP) := by
  refine F.okX sc_Part___init__ (fun vs H Q E h => ?_) (fun cdv A outer s H vs Q E hr h => ?_)
  · unfold spInit at h
    obtain ⟨p, dx, a, b, c, wd, nm, sh, hd, zs, ds, rfl, _⟩ := h
    rfl
  · unfold spInit at h
    obtain ⟨p, dx, a, b, c, wd, nm, sh, hd, zs, ds, rfl, hp, ha, hb, hl1, hl2, kn, ks, kh, hc, hzl, hda, htd, q, qn, qp⟩ := h
    refine ⟨_, (pss_cons (ps_expr (pe_calE C__check_names (takes_of rfl rfl rfl rfl) (hr.mono (by decide)) (pa_cons (pv 2) (pa_cons (pv 3) (pa_cons (pv 4) pa_nil)))))
    (pss_cons (ps_expr (pe_calE C__check_single (takes_of rfl rfl rfl rfl) (hr.mono (by decide)) (pa_cons (pe_lst (StX.pa_star (pv 3) (StX.pa_star (pv 4) pa_nil))) pa_nil)))
    (pss_cons (ps_fld (pv 0) (pv 1) rfl)
    (pss_cons (ps_fld (pv 0) (pv 2) rfl)
    (pss_cons (ps_fld (pv 0) (pe_calR C_merge_names (hr.mono (by decide)) (pa_cons (pv 3) pa_nil)) rfl)
    (pss_cons (ps_fld (pv 0) (pe_calR C_merge_names (hr.mono (by decide)) (pa_cons (pv 4) pa_nil)) rfl)
    (pss_one (ps_fld (pv 0) (pe_callTy (T := "tuple") call_tuple_of (by rfl) m_tuple (by decide +kernel) (pa_cons (pv 5) pa_nil)) rfl)))))))), ?_⟩
    walk_at "rd"
    show spChkN K CN _ _ _ _
    unfold spChkN
    refine ⟨nm, a, b, sh, hd, rfl, ha, hb, hl1, hl2, kn, ks, kh, fun hbad H1 s1 => ?_, fun z hz d H1 s1 hd1 => qn z hz d H1 (Bx.Same.but s1) hd1⟩
    walk_at "rd"
    refine ⟨a, _, rfl, (ha.same s1).symm, ?_⟩
    walk_at "rd"
    refine ⟨b, _, rfl, (hb.same s1).symm, ?_⟩
    refine ⟨sz (by rw [List.append_nil, List.length_append, List.length_map, List.length_map]; omega), fun L nL => ?_⟩
    rw [List.append_nil]
    have sL := same_new nL (o := .lst (sh.map V.str ++ hd.map V.str))
    have hL : (upd H1 L (.lst (sh.map V.str ++ hd.map V.str))) L = some (.lst ((sh ++ hd).map V.str)) := by rw [upd_same, List.map_append]
    generalize upd H1 L (.lst (sh.map V.str ++ hd.map V.str)) = H2 at sL hL ⊢
    have s2 := Same.trans s1 sL
    show spChkS K CP _ _ _ _
    unfold spChkS
    refine ⟨L, sh ++ hd, rfl, sq hL, by rw [List.length_append]; omega, fun z hz => (List.mem_append.mp hz).elim (ks z) (kh z), fun nd H3 s3 => ?_, fun z hz d H3 s3 hd3 => qp hbad z hz d H3 (Bx.Same.but (Same.trans s2 s3)) hd3⟩
    have s13 := Same.trans s2 s3
    have hp3 := s13 _ _ hp
    have ha3 := ha.same s13
    have hb3 := hb.same s13
    have hc3 := hc.imp (Same.seq s13) (Bx.Same.tup s13)
    have hda3 := dpAll_same s13 hda
    have q3 := q hbad nd
    clear q qn qp hL sL s1 s2 s3 ha hb hc hda nL
    walk_at "rd"
    refine ⟨p, C, dx, _, rfl, hp3, cf.cl, cf.n1, by decide, ?_⟩
    have t4 : Tk K H3 (upd H3 p (.ins C dx (putF "word" (.str wd) []))) := tk_ins hp3
    have b4 : SameBut p H (upd H3 p (.ins C dx (putF "word" (.str wd) []))) := SameBut.trans (Bx.Same.but s13) SameBut.upd
    have hp4 : (upd H3 p (.ins C dx (putF "word" (.str wd) []))) p = some (.ins C dx (f1 wd)) := upd_same
    have nm4 : ∀ {x : Addr} {ns : List Str}, NmS K H3 x ns → NmS K (upd H3 p (.ins C dx (putF "word" (.str wd) []))) x ns := fun {x ns} h => h.imp (fun h => by
      rcases h with (h | ⟨u, h⟩) | h
      · exact .inl (.inl (by rw [upd_ne fun z => by rw [z, hp3] at h; cases h]; exact h))
      · exact .inl (.inr ⟨u, by rw [upd_ne fun z => by rw [z, hp3] at h; cases h]; exact h⟩)
      · exact .inr h) (t4 _ _)
    have ha4 := nm4 ha3
    have hb4 := nm4 hb3
    have hc4 : SqL K (upd H3 p (.ins C dx (putF "word" (.str wd) []))) c zs ∨ SqT K (upd H3 p (.ins C dx (putF "word" (.str wd) []))) c zs := hc3.imp (fun h => by
      rcases h with (h | ⟨u, h⟩) | h
      · exact .inl (.inl (by rw [upd_ne fun z => by rw [z, hp3] at h; cases h]; exact h))
      · exact .inl (.inr ⟨u, by rw [upd_ne fun z => by rw [z, hp3] at h; cases h]; exact h⟩)
      · exact .inr h) (t4 _ _)
    have hda4 := da_tk t4 ds _ htd hda3
    clear ha3 hb3 hc3 hda3 hp3 t4 nm4
    generalize upd H3 p (.ins C dx (putF "word" (.str wd) [])) = H4 at *
    walk_at "rd"
    refine ⟨p, C, dx, _, rfl, hp4, cf.cl, cf.n2, by show 1 < 1000; decide, ?_⟩
    rw [p2]
    have step : ∀ {G G' : Hp} {o : HO} {fs : List (Str × V)}, G p = some (.ins C dx fs) → G' = upd G p o → Tk K G G' ∧ SameBut p G G' ∧ (∀ {x : Addr} {ys : List V}, (SqL K G x ys ∨ SqT K G x ys) → SqL K G' x ys ∨ SqT K G' x ys) := fun {G G' o fs} hg e => by
      subst e
      refine ⟨tk_ins hg, SameBut.upd, fun {x ys} h => h.imp (fun h => ?_) (tk_ins hg _ _)⟩
      rcases h with (h | ⟨u, h⟩) | h
      · exact .inl (.inl (by rw [upd_ne fun z => by rw [z, hg] at h; cases h]; exact h))
      · exact .inl (.inr ⟨u, by rw [upd_ne fun z => by rw [z, hg] at h; cases h]; exact h⟩)
      · exact .inr h
    obtain ⟨t5, bt5, sq5⟩ := step (G' := upd H4 p (.ins C dx (f2 wd nm))) hp4 rfl
    have b5 := b4.trans bt5
    have hp5 : (upd H4 p (.ins C dx (f2 wd nm))) p = some (.ins C dx (f2 wd nm)) := upd_same
    have ha5 : NmS K _ a sh := sq5 ha4
    have hb5 : NmS K _ b hd := sq5 hb4
    have hc5 := sq5 hc4
    have hda5 := da_tk t5 ds _ htd hda4
    clear ha4 hb4 hc4 hda4 hp4 t5 bt5 sq5 b4
    generalize upd H4 p (.ins C dx (f2 wd nm)) = H5 at *
    walk_at "rd"
    refine ⟨[(a, sh)], rfl, (fun q hq => by rw [List.mem_singleton.mp hq]; exact ha5), (by show 1 ≤ 1000; decide), (by simp; omega), fun r1 G1 s' g1 nr1 hr1 st1 nd1 mem1 => ?_⟩
    have asc1 := asc_of st1 nd1
    have mem1' : ∀ x, x ∈ s' ↔ x ∈ sh := fun x => (mem1 x).trans (by simp)
    walk_at "rd"
    have hpg := g1 _ _ hp5
    refine ⟨p, C, dx, _, rfl, hpg, cf.cl, cf.n3, by show 2 < 1000; decide, ?_⟩
    rw [p3]
    obtain ⟨t6, bt6, sq6⟩ := step (G' := upd G1 p (.ins C dx (f3 wd nm r1))) hpg rfl
    have b6 := b5.trans ((Bx.Same.but g1).trans bt6)
    have hp6 : (upd G1 p (.ins C dx (f3 wd nm r1))) p = some (.ins C dx (f3 wd nm r1)) := upd_same
    have hr6 := t6 _ _ (sqt hr1)
    have hb6 : NmS K _ b hd := sq6 (hb5.same g1)
    have hc6 := sq6 (hc5.imp (Same.seq g1) (Bx.Same.tup g1))
    have hda6 := da_tk t6 ds _ htd (dpAll_same g1 hda5)
    clear ha5 hb5 hc5 hda5 hp5 t6 bt6 sq6 b5 hr1 hpg g1
    generalize upd G1 p (.ins C dx (f3 wd nm r1)) = H6 at *
    walk_at "rd"
    refine ⟨[(b, hd)], rfl, (fun q hq => by rw [List.mem_singleton.mp hq]; exact hb6), (by show 1 ≤ 1000; decide), (by simp; omega), fun r2 G2 t' g2 nr2 hr2 st2 nd2 mem2 => ?_⟩
    have asc2 := asc_of st2 nd2
    have mem2' : ∀ x, x ∈ t' ↔ x ∈ hd := fun x => (mem2 x).trans (by simp)
    walk_at "rd"
    have hpg := g2 _ _ hp6
    refine ⟨p, C, dx, _, rfl, hpg, cf.cl, cf.n4, by show 3 < 1000; decide, ?_⟩
    rw [p4]
    obtain ⟨t7, bt7, sq7⟩ := step (G' := upd G2 p (.ins C dx (f4 wd nm r1 r2))) hpg rfl
    have b7 := b6.trans ((Bx.Same.but g2).trans bt7)
    have hp7 : (upd G2 p (.ins C dx (f4 wd nm r1 r2))) p = some (.ins C dx (f4 wd nm r1 r2)) := upd_same
    have hs7 := t7 _ _ (Bx.Same.tup g2 hr6)
    have ht7 := t7 _ _ (sqt hr2)
    have hc7 := sq7 (hc6.imp (Same.seq g2) (Bx.Same.tup g2))
    have hda7 := da_tk t7 ds _ htd (dpAll_same g2 hda6)
    clear hb6 hc6 hda6 hp6 t7 bt7 sq7 b6 hr2 hr6 hpg g2
    generalize upd G2 p (.ins C dx (f4 wd nm r1 r2)) = H7 at *
    have fin : ∀ (c' : Addr) H8, Same H7 H8 → SqT K H8 c' zs → Q .non (upd H8 p (.ins C dx (f5 wd nm r1 r2 c'))) := fun c' H8 s8 hc8 => by
      have hp8 := s8 _ _ hp7
      obtain ⟨t9, bt9, _⟩ := step (G' := upd H8 p (.ins C dx (f5 wd nm r1 r2 c'))) hp8 rfl
      exact q3 _ s' t' asc1 asc2 mem1' mem2' ⟨dx, r1, r2, c', zs, upd_same, t9 _ _ (Bx.Same.tup s8 hs7), t9 _ _ (Bx.Same.tup s8 ht7), t9 _ _ hc8, da_tk t9 ds _ htd (dpAll_same s8 hda7)⟩ (b7.trans ((Bx.Same.but s8).trans bt9))
    walk_at "rd"
    rcases hc7 with hc7 | hc7
    · refine ⟨c, zs, rfl, .inl ⟨hc7, fun u nu => ?_⟩⟩
      have su := same_new nu (o := .tup zs)
      walk_at "rd"
      refine ⟨p, C, dx, _, rfl, su _ _ hp7, cf.cl, cf.n5, by show 4 < 1000; decide, ?_⟩
      rw [p5]
      exact fin u _ su (sqt upd_same)
    · refine ⟨c, zs, rfl, .inr ⟨hc7, ?_⟩⟩
      walk_at "rd"
      refine ⟨p, C, dx, _, rfl, hp7, cf.cl, cf.n5, by show 4 < 1000; decide, ?_⟩
      rw [p5]
      exact fin c _ (Same.refl _) hc7
end
end K02
namespace K02
local macro_rules | `(tactic| walk_at "rd") => `(tactic| repeat (first | refine ⟨rfl, ?_⟩ | refine ⟨_, rfl, ?_⟩ | refine ⟨_, _, rfl, rfl, ?_⟩ | refine ⟨⟨_, rfl⟩, ?_⟩))
open PySem PySem.Spec PyProof.Rows L2 Bx TL Dx Zx Ow Sup Er NdefX Px
open M02 (Dup)
/-- a part that can be made -/
structure Good (nm : Str) (sh hd : List Str) (ds : List PyData) : Prop where
  nb : plainB nm = true
  sb : ∀ z ∈ sh, plainB z = true
  hb : ∀ z ∈ hd, fullB z = true
  kn : OkZ nm
  ks : ∀ z ∈ sh, OkZ z
  kh : ∀ z ∈ hd, OkZ z
  nd : (sh ++ hd).Nodup
  ln : sh.length + hd.length ≤ 20
  td : tupAll ds = true
  dl : ds.length ≤ 100
theorem bad_none {nm : Str} {sh hd : List Str} (nb : plainB nm = true) (sb : ∀ z ∈ sh, plainB z = true) (hb : ∀ z ∈ hd, fullB z = true) : badN nm sh hd = none := by
  unfold badN
  have e1 : (nm :: sh).find? (fun z => !plainB z) = none := List.find?_eq_none.mpr fun x hx => by
    rcases List.mem_cons.mp hx with rfl | hx
    · rw [nb]
      exact Bool.false_ne_true
    · rw [sb x hx]
      exact Bool.false_ne_true
  have e2 : hd.find? (fun z => !fullB z) = none := List.find?_eq_none.mpr fun x hx => by
    rw [hb x hx]
    exact Bool.false_ne_true
  rw [e1, e2]
  rfl
theorem Good.bad {nm : Str} {sh hd : List Str} {ds : List PyData} (g : Good nm sh hd ds) : badN nm sh hd = none := bad_none g.nb g.sb g.hb
theorem Good.perm {nm : Str} {sh hd sh' hd' : List Str} {ds : List PyData} (g : Good nm sh hd ds) (p : sh'.Perm sh) (q : hd'.Perm hd) : Good nm sh' hd' ds :=
  ⟨g.nb, fun z h => g.sb z (p.mem_iff.mp h), fun z h => g.hb z (q.mem_iff.mp h), g.kn, fun z h => g.ks z (p.mem_iff.mp h), fun z h => g.kh z (q.mem_iff.mp h), (p.append q).nodup_iff.mpr g.nd, by rw [p.length_eq, q.length_eq]; exact g.ln, g.td, g.dl⟩
theorem perm_mem {l m : List Str} (a : l.Nodup) (b : m.Nodup) (h : ∀ x, x ∈ l ↔ x ∈ m) : l.Perm m := (List.perm_ext_iff_of_nodup a b).mpr h
theorem okName_dot {l : List Nat} (h : 46 ∈ l) : okName l = false := by
  cases l with
  | nil => cases h
  | cons c r =>
    show (_ && (c :: r).all fun d => decide (d ∈ lett ++ digs)) = false
    rw [Bool.and_eq_false_iff]
    refine .inr (Bool.eq_false_iff.mpr fun z => ?_)
    have := of_decide_eq_true (List.all_eq_true.mp z 46 h)
    revert this
    decide
theorem tl_dot : tl (Str.ofString ".") = [46] := by decide +kernel
theorem plain_full {z : Str} (h : plainB z = true) : fullB z = true := by
  have n : 46 ∉ tl z := fun m => by
    have := okName_dot m
    unfold plainB at h
    rw [this] at h
    cases h
  have e : Txt.split (Txt.join "." [z]) "." = [z] := split_join (s := 46) (S := []) tl_dot (by decide +kernel) (by simp) fun p hp => by
    rw [List.mem_singleton.mp hp]
    exact n
  have e2 : Txt.join "." [z] = z := rfl
  rw [e2] at e
  unfold fullB
  rw [e]
  show (okName (tl z) && true) = true
  rw [Bool.and_true]
  exact h
/-- the name z from the shown to the hidden ones -/
theorem Good.hide {nm z : Str} {sh hd : List Str} {ds : List PyData} (g : Good nm sh hd ds) (hz : z ∈ sh) : Good nm (sh.filter fun x => decide (x ≠ z)) (hd ++ [z]) ds := by
  have sub : ∀ x ∈ sh.filter (fun x => decide (x ≠ z)), x ∈ sh ∧ x ≠ z := fun x h => ⟨(List.mem_filter.mp h).1, of_decide_eq_true (List.mem_filter.mp h).2⟩
  obtain ⟨n1, n2, n3⟩ := List.nodup_append.mp g.nd
  refine ⟨g.nb, fun x h => g.sb x (sub x h).1, fun x h => ?_, g.kn, fun x h => g.ks x (sub x h).1, fun x h => ?_, ?_, ?_, g.td, g.dl⟩
  · rcases List.mem_append.mp h with h | h
    · exact g.hb x h
    · rw [List.mem_singleton.mp h]
      exact plain_full (g.sb z hz)
  · rcases List.mem_append.mp h with h | h
    · exact g.kh x h
    · rw [List.mem_singleton.mp h]
      exact g.ks z hz
  · refine List.nodup_append.mpr ⟨n1.filter _, List.nodup_append.mpr ⟨n2, by simp, fun a ha b hb e => ?_⟩, fun a ha b hb e => ?_⟩
    · rw [List.mem_singleton.mp hb] at e
      exact n3 z hz a ha e.symm
    · rcases List.mem_append.mp hb with hb | hb
      · exact n3 a (sub a ha).1 b hb e
      · rw [List.mem_singleton.mp hb] at e
        exact (sub a ha).2 e
  · have h1 := List.length_filter_le (fun x => decide (x ≠ z)) sh
    have h2 : (sh.filter fun x => decide (x ≠ z)).length < sh.length := by
      refine Nat.lt_of_le_of_ne h1 fun e => ?_
      have := (List.length_filter_eq_length_iff.mp e) z hz
      simp at this
    rw [List.length_append]
    have := g.ln
    show _ + (hd.length + 1) ≤ 20
    omega
theorem Good.show {nm z : Str} {sh hd : List Str} {ds : List PyData} (g : Good nm sh hd ds) (hz : z ∈ hd) (pz : plainB z = true) : Good nm (sh ++ [z]) (hd.filter fun x => decide (x ≠ z)) ds := by
  have sub : ∀ x ∈ hd.filter (fun x => decide (x ≠ z)), x ∈ hd ∧ x ≠ z := fun x h => ⟨(List.mem_filter.mp h).1, of_decide_eq_true (List.mem_filter.mp h).2⟩
  obtain ⟨n1, n2, n3⟩ := List.nodup_append.mp g.nd
  refine ⟨g.nb, fun x h => ?_, fun x h => g.hb x (sub x h).1, g.kn, fun x h => ?_, fun x h => g.kh x (sub x h).1, ?_, ?_, g.td, g.dl⟩
  · rcases List.mem_append.mp h with h | h
    · exact g.sb x h
    · rw [List.mem_singleton.mp h]
      exact pz
  · rcases List.mem_append.mp h with h | h
    · exact g.ks x h
    · rw [List.mem_singleton.mp h]
      exact g.kh z hz
  · refine List.nodup_append.mpr ⟨List.nodup_append.mpr ⟨n1, by simp, fun a ha b hb e => ?_⟩, n2.filter _, fun a ha b hb e => ?_⟩
    · rw [List.mem_singleton.mp hb] at e
      exact n3 a ha z hz e
    · rcases List.mem_append.mp ha with ha | ha
      · exact n3 a ha b (sub b hb).1 e
      · rw [List.mem_singleton.mp ha] at e
        exact (sub b hb).2 e.symm
  · have h1 := List.length_filter_le (fun x => decide (x ≠ z)) hd
    have h2 : (hd.filter fun x => decide (x ≠ z)).length < hd.length := by
      refine Nat.lt_of_le_of_ne h1 fun e => ?_
      have := (List.length_filter_eq_length_iff.mp e) z hz
      simp at this
    rw [List.length_append]
    have := g.ln
    show sh.length + 1 + _ ≤ 20
    omega
section
variable {P : Program} {w : World} {K : PySem.W.Frag} {mg : Str → Option Value} {base : Heap}
abbrev MkP (P : Program) (w : World) (K : PySem.W.Frag) (mg : Str → Option Value) (base : Heap) (C CN CP : Addr) : Prop := MakX P w K mg base "Part" C 5 ["self", "word", "name", "shown", "hidden", "constraints"] (spInit K C CN CP)
/-- a new part -/
theorem mk_gen {C CN CP : Addr} {H : Hp} {x dx a b c : Addr} {wd nm : Str} {sh hd : List Str} {zs : List V} {ds : List PyData} {R : VK} {E : XK} (nx : H x = none) (nd : H dx = none) (ha : NmS K H a sh) (hb : NmS K H b hd) (hc : SqL K H c zs ∨ SqT K H c zs) (hda : DpAll K H zs ds)
    (l1 : sh.length ≤ 20) (l2 : hd.length ≤ 20) (kn : OkZ nm) (ks : ∀ z ∈ sh, OkZ z) (kh : ∀ z ∈ hd, OkZ z) (td : tupAll ds = true) (dl : ds.length ≤ 100)
    (q : badN nm sh hd = none → (sh ++ hd).Nodup → ∀ H' s' t', Same H H' → Asc s' → Asc t' → (∀ x, x ∈ s' ↔ x ∈ sh) → (∀ x, x ∈ t' ↔ x ∈ hd) → PartAt K C H' x wd nm s' t' ds → R .non H')
    (qn : ∀ z, badN nm sh hd = some z → XN E H CN z) (qp : badN nm sh hd = none → ∀ z, Dup (sh ++ hd) z → XN E H CP z) : spInit K C CN CP [.ref x, .str wd, .str nm, .ref a, .ref b, .ref c] (upd (upd H dx (.own x)) x (.ins C dx [])) R E := by
  have s1 : Same H (upd (upd H dx (.own x)) x (.ins C dx [])) := fun b o e => by
    rw [upd_ne (ne_of_none e nx), upd_ne (ne_of_none e nd)]
    exact e
  have back : ∀ {H'}, SameBut x (upd (upd H dx (.own x)) x (.ins C dx [])) H' → Same H H' := fun sb b o e => sb b o (ne_of_none e nx) (s1 b o e)
  unfold spInit
  exact ⟨x, dx, a, b, c, wd, nm, sh, hd, zs, ds, rfl, upd_same, ha.same s1, hb.same s1, l1, l2, kn, ks, kh, hc.imp (Same.seq s1) (Bx.Same.tup s1), by rw [da_len hda]; exact dl, dpAll_same s1 hda, td,
    fun h1 h2 H' s' t' a1 a2 m1 m2 hP sb => q h1 h2 H' s' t' (back sb) a1 a2 m1 m2 hP, fun z hz d H' sb hd' => qn z hz d H' (back sb) hd', fun h1 z hz d H' sb hd' => qp h1 z hz d H' (back sb) hd'⟩
theorem mk_of {C CN CP : Addr} {H : Hp} {x dx a b c : Addr} {wd nm : Str} {sh hd : List Str} {zs : List V} {ds : List PyData} {R : VK} {E : XK} (nx : H x = none) (nd : H dx = none) (ha : NmS K H a sh) (hb : NmS K H b hd) (hc : SqL K H c zs ∨ SqT K H c zs) (hda : DpAll K H zs ds) (g : Good nm sh hd ds)
    (q : ∀ H' s' t', Same H H' → Asc s' → Asc t' → (∀ x, x ∈ s' ↔ x ∈ sh) → (∀ x, x ∈ t' ↔ x ∈ hd) → PartAt K C H' x wd nm s' t' ds → R .non H') : spInit K C CN CP [.ref x, .str wd, .str nm, .ref a, .ref b, .ref c] (upd (upd H dx (.own x)) x (.ins C dx [])) R E := by
  have ln := g.ln
  exact mk_gen nx nd ha hb hc hda (by omega) (by omega) g.kn g.ks g.kh g.td g.dl (fun _ _ => q) (fun z hz => by rw [g.bad] at hz; cases hz) fun _ z hz => absurd hz.1 (M02.count_nodup g.nd z)
/-! ### what can be read -/
@[irreducible] def spLen (K : PySem.W.Frag) (C : Addr) : Sp := fun vs H Q _ => ∃ (p : Addr) (wd nm : Str) (sh hd : List Str) (ds : List PyData), vs = [.ref p] ∧ PartAt K C H p wd nm sh hd ds ∧ Q (.int (ds.length : Nat)) H
theorem ok_len {C : Addr} (cf : K02.CF K C) {f : Addr} {fd : FuncData} (F : Fun K "__len__" "Part.__len__" s_Part___len__ f fd) (m_len : mg "len" = none) : FnOk P w K mg base CX0 1 f fd ["self"] (spLen K C) := by
  refine F.ok sc_Part___len__ (fun vs H Q E h => ?_) (fun cdv A outer s H vs Q E hr h => ?_)
  · unfold spLen at h
    obtain ⟨p, wd, nm, sh, hd, ds, rfl, _⟩ := h
    rfl
  · unfold spLen at h
    obtain ⟨p, wd, nm, sh, hd, ds, rfl, ⟨dx, a, b, c, zs, h1, h2, h3, h4, h5⟩, q⟩ := h
    refine ⟨_, (pss_one (ps_ret (pe_callB call_len_seq (by rfl) m_len PySem.boot_len (pa_cons (pe_fld (pv 0) rfl) pa_nil)))), ?_⟩
    walk_at "rd"
    refine ⟨p, C, dx, _, _, rfl, h1, cf.cl, cf.n5, gC wd nm a b c, ?_⟩
    walk_at "rd"
    refine ⟨_, _, rfl, .inr h4, ?_⟩
    rw [da_len h5]
    exact q
theorem it_mk {C : Addr} (cf : K02.CF K C) {f : Addr} {fd : FuncData} (F : Fun K "__iter__" "Part.__iter__" s_Part___iter__ f fd) (m_iter : mg "iter" = none) (hfi : PySem.W.findIn K (.ref C) "__iter__" = some (some (.ref f))) (hf : PySem.W.isFn K (.ref f) = true) (hb : Binds K fd ["self"] []) : ItM P w K mg base C "constraints" 1 := by
  obtain ⟨oc, od, kV, doc, pm, an, cdv, ct, osl, rfl, lk, hcd⟩ := F.ex
  refine ⟨f, hfi, hf, fun A outer s H E p dx t fs zs hr e0 hp hl hz => ?_⟩
  refine run_here (us := [.ref p]) (vs := [.ref p]) (ps := ["self"]) (k := 0) lk hcd sc_Part___iter__ hr e0 ?_ (.cons rfl .nil) rfl fun hr0 => ?_
  · exact hb s [.ref p] (e0.mod.kin.keeps (fun a b z => (e0.bs a b z).1)) rfl
  · refine ⟨_, PSs.nox ((pss_one (ps_ret (pe_callB (id := "iter") call_iterT (by rfl) m_iter (by decide +kernel) (pa_cons (pe_fld (pv 0) rfl) pa_nil))))), ?_⟩
    walk_at "rd"
    refine ⟨p, C, dx, fs, _, rfl, hp, cf.cl, cf.n5, hl, ?_⟩
    walk_at "rd"
    refine ⟨t, zs, rfl, hz, fun it n1 hy => ?_⟩
    exact ⟨it, rfl, n1, hy, rfl⟩
@[irreducible] def spCont (K : PySem.W.Frag) (C : Addr) : Sp := fun vs H Q _ => ∃ (p : Addr) (z wd nm : Str) (sh hd : List Str) (ds : List PyData), vs = [.ref p, .str z] ∧ PartAt K C H p wd nm sh hd ds ∧ Q (.bl (decide (z ∈ sh))) H
theorem flat_strs (ns : List Str) : (ns.map V.str).all flatV = true := List.all_eq_true.mpr fun v hv => by
  obtain ⟨n, _, rfl⟩ := List.mem_map.mp hv
  rfl
theorem ok_cont {C : Addr} (cf : K02.CF K C) {f : Addr} {fd : FuncData} (F : Fun K "__contains__" "Part.__contains__" s_Part___contains__ f fd) : FnOk P w K mg base CX0 1 f fd ["self", "x"] (spCont K C) := by
  refine F.ok sc_Part___contains__ (fun vs H Q E h => ?_) (fun cdv A outer s H vs Q E hr h => ?_)
  · unfold spCont at h
    obtain ⟨p, z, wd, nm, sh, hd, ds, rfl, _⟩ := h
    rfl
  · unfold spCont at h
    obtain ⟨p, z, wd, nm, sh, hd, ds, rfl, ⟨dx, a, b, c, zs, h1, h2, h3, h4, h5⟩, q⟩ := h
    refine ⟨_, (pss_one (ps_ret (pe_cmpR op_in_seq (pv 1) (pe_fld (pv 0) rfl) (by rfl)))), ?_⟩
    walk_at "rd"
    refine ⟨p, C, dx, _, _, rfl, h1, cf.cl, cf.n3, gS wd nm a b c, ?_⟩
    refine ⟨a, _, rfl, .inr h2, rfl, flat_strs sh, ?_⟩
    rw [inV_str]
    exact q
@[irreducible] def spNames (K : PySem.W.Frag) (C : Addr) : Sp := fun vs H Q _ => ∃ (p : Addr) (wd nm : Str) (sh hd : List Str) (ds : List PyData), vs = [.ref p] ∧ PartAt K C H p wd nm sh hd ds ∧ sh.length + hd.length ≤ 100 ∧
  ∀ r H' ys, Same H H' → H' r = some (.tup (ys.map V.str)) → Asc ys → (∀ x, x ∈ ys ↔ x ∈ sh ++ hd) → Q (.ref r) H'
theorem ok_names {C : Addr} (cf : K02.CF K C) {f : Addr} {fd : FuncData} (F : Fun K "names" "Part.names" s_Part_names f fd) (C_merge_names : CalR P w K mg base "merge_names" 1 (spMerge K)) : FnOk P w K mg base CX0 2 f fd ["self"] (spNames K C) := by
  refine F.ok sc_Part_names (fun vs H Q E h => ?_) (fun cdv A outer s H vs Q E hr h => ?_)
  · unfold spNames at h
    obtain ⟨p, wd, nm, sh, hd, ds, rfl, _⟩ := h
    rfl
  · unfold spNames at h
    obtain ⟨p, wd, nm, sh, hd, ds, rfl, ⟨dx, a, b, c, zs, h1, h2, h3, h4, h5⟩, hl, q⟩ := h
    refine ⟨_, (pss_one (ps_ret (pe_calR C_merge_names (hr.mono (by decide)) (pa_cons (pe_fld (pv 0) rfl) (pa_cons (pe_fld (pv 0) rfl) pa_nil))))), ?_⟩
    walk_at "rd"
    refine ⟨p, C, dx, _, _, rfl, h1, cf.cl, cf.n3, gS wd nm a b c, ?_⟩
    walk_at "rd"
    refine ⟨p, C, dx, _, _, rfl, h1, cf.cl, cf.n4, gH wd nm a b c, ?_⟩
    refine ⟨[(a, sh), (b, hd)], rfl, fun q hq => ?_, (by show 2 ≤ 1000; decide), (by simp; omega), fun r H1 ys s1 nr hr1 st nd mem => ?_⟩
    · rcases List.mem_cons.mp hq with rfl | hq
      · exact .inr h2
      · rw [List.mem_singleton.mp hq]
        exact .inr h3
    · exact q r H1 ys s1 hr1 (asc_of st nd) fun x => (mem x).trans (by simp)
@[irreducible] def spTheory (K : PySem.W.Frag) (C : Addr) : Sp := fun vs H Q _ => ∃ (p : Addr) (wd nm : Str) (sh hd : List Str) (ds : List PyData), vs = [.ref p] ∧ PartAt K C H p wd nm sh hd ds ∧ sh.length + hd.length ≤ 100 ∧
  ∀ r H' ys, Same H H' → Dp K H' (.ref r) (.tuple [.tuple (ys.map PyData.str), .tuple ds]) → Asc ys → (∀ x, x ∈ ys ↔ x ∈ sh ++ hd) → Q (.ref r) H'
theorem ok_theory {C : Addr} (cf : K02.CF K C) {f : Addr} {fd : FuncData} (F : Fun K "theory" "Part.theory" s_Part_theory f fd) (P_names : PropC P w K mg base C "names" 2 (spNames K C)) : FnOk P w K mg base CX0 4 f fd ["self"] (spTheory K C) := by
  refine F.ok sc_Part_theory (fun vs H Q E h => ?_) (fun cdv A outer s H vs Q E hr h => ?_)
  · unfold spTheory at h
    obtain ⟨p, wd, nm, sh, hd, ds, rfl, _⟩ := h
    rfl
  · unfold spTheory at h
    obtain ⟨p, wd, nm, sh, hd, ds, rfl, hP, hl, q⟩ := h
    obtain ⟨dx, a, b, c, zs, h1, h2, h3, h4, h5⟩ := id hP
    refine ⟨_, (pss_one (ps_ret (pe_tup (pa_cons (pe_propC P_names (hr.mono (by decide)) (pv 0) rfl) (pa_cons (pe_fld (pv 0) rfl) pa_nil))))), ?_⟩
    walk_at "rd"
    refine ⟨p, dx, _, rfl, h1, ?_⟩
    show spNames K C _ _ _ _
    unfold spNames
    refine ⟨p, wd, nm, sh, hd, ds, rfl, hP, hl, fun r H1 ys s1 hr1 asc mem => ?_⟩
    walk_at "rd"
    refine ⟨p, C, dx, _, _, rfl, s1 _ _ h1, cf.cl, cf.n5, gC wd nm a b c, ?_⟩
    refine ⟨sz (by show 2 ≤ 100000; decide), fun t nt => ?_⟩
    have st := same_new nt (o := .tup [.ref r, .ref c])
    exact q t _ ys (Same.trans s1 st) (.tup (sqt upd_same) (.cons (names_dp (sqt (st _ _ hr1))) (da_one (.tup (Bx.Same.tup (Same.trans s1 st) h4) (dpAll_same (Same.trans s1 st) h5))))) asc mem
end
end K02
namespace K02
local macro_rules | `(tactic| walk_at "rd") => `(tactic| repeat (first | refine ⟨rfl, ?_⟩ | refine ⟨_, rfl, ?_⟩ | refine ⟨_, _, rfl, rfl, ?_⟩ | refine ⟨⟨_, rfl⟩, ?_⟩))
open PySem PySem.Spec PyProof.Rows L2 Bx TL Dx Zx Ow Sup Er NdefX Px
open M02 (Dup)
section
variable {P : Program} {w : World} {K : PySem.W.Frag} {mg : Str → Option Value} {base : Heap}
theorem ne_str (a b : Str) : (!decide (V.str a = V.str b)) = decide (a ≠ b) := by
  by_cases h : a = b
  · subst h
    simp
  · rw [decide_eq_false (fun z => h (V.str.inj z)), decide_eq_true h]
    rfl
theorem take_filter {p : Str → Bool} {l : List Str} {i : Nat} {y : Str} (h : l[i]? = some y) : ((l.take (i + 1)).filter p) = (l.take i).filter p ++ [y].filter p := by
  rw [List.take_add_one, h, List.filter_append]
  rfl
@[irreducible] def spSub (K : PySem.W.Frag) (C CP : Addr) : Sp := fun vs H Q E => ∃ (p : Addr) (z wd nm : Str) (sh hd : List Str) (ds : List PyData), vs = [.ref p, .str z] ∧ PartAt K C H p wd nm sh hd ds ∧ Good nm sh hd ds ∧ OkZ z ∧ (z ∉ sh → XN E H CP z) ∧
  (z ∈ sh → ∀ x H' s' t', Same H H' → Asc s' → Asc t' → (∀ y, y ∈ s' ↔ y ∈ sh.filter fun y => decide (y ≠ z)) → (∀ y, y ∈ t' ↔ y ∈ hd ++ [z]) → PartAt K C H' x wd nm s' t' ds → Q (.ref x) H')
theorem ok_sub {C CN CP : Addr} (cf : K02.CF K C) {f : Addr} {fd : FuncData} (F : Fun K "__sub__" "Part.__sub__" s_Part___sub__ f fd) (K_P : MkP P w K mg base C CN CP) (E_InvalidPart : Err P w K mg base "InvalidPart" CP "name" "name" okS 1) :
    FnOk P w K mg base (L2.CX P w) 7 f fd ["self", "other"] (spSub K C CP) := by
  refine F.okX sc_Part___sub__ (fun vs H Q E h => ?_) (fun cdv A outer s H vs Q E hr h => ?_)
  · unfold spSub at h
    obtain ⟨p, z, wd, nm, sh, hd, ds, rfl, _⟩ := h
    rfl
  · unfold spSub at h
    obtain ⟨p, z, wd, nm, sh, hd, ds, rfl, hP, g, kz, qe, q⟩ := h
    obtain ⟨dx, a, b, c, zs, h1, h2, h3, h4, h5⟩ := id hP
    have ln := g.ln
    refine ⟨_, (pss_cons (ps_if (pt_cmpR op_notIn_seq (pv 1) (pe_fld (pv 0) rfl) (by rfl))
      (pss_one (ps_raiseE E_InvalidPart rfl (takes_of rfl rfl rfl rfl) (hr.mono (by decide)) (pv 1)))
      pss_nil)
    (pss_cons (ps_setLc (i := 2) (own := [("name", 3)]) rfl sc_Part___sub__.nd rfl rfl (sw_true rfl rfl rfl (by decide +kernel)) (pi_tup (pe_fld (pv 0) rfl)) (blkOk_by (N := n_Part___sub__) (sc := defScope s_Part___sub__) (by decide +kernel)) (fun _ _ _ _ _ => pg_name (i := 3) sc_Part___sub__.nd rfl (Or.inl rfl)) (fun _ _ _ _ _ => pts_one (pt_cmpR op_ne (pv 3) (pv 1) (nomark _))) (fun _ _ _ _ _ => (pv 3)))
    (pss_one (ps_ret (pe_makX K_P (takes_of rfl rfl rfl rfl) (hr.mono (by decide)) (pa_cons (pe_fld (pv 0) rfl) (pa_cons (pe_fld (pv 0) rfl) (pa_cons (pv 2) (pa_cons (pe_lst (StX.pa_star (pe_fld (pv 0) rfl) (pa_cons (pv 1) pa_nil))) (pa_cons (pe_fld (pv 0) rfl) pa_nil)))))))))), ?_⟩
    walk_at "rd"
    refine ⟨p, C, dx, _, _, rfl, h1, cf.cl, cf.n3, gS wd nm a b c, ?_⟩
    refine ⟨a, _, rfl, .inr h2, rfl, flat_strs sh, ?_⟩
    rw [inV_str]
    walk_at "rd"
    refine ite2 (fun h0 => ?_) (fun h0 => ?_)
    · have hz : z ∉ sh := fun m => by
        rw [decide_eq_true m] at h0
        cases h0
      walk_at "rd"
      exact ⟨⟨z, rfl, kz.r⟩, fun d H' s' nd' hd' => qe hz d H' s' hd'⟩
    · have hz : z ∈ sh := Decidable.byContradiction fun m => h0 (by rw [decide_eq_false m]; rfl)
      walk_at "rd"
      refine ⟨p, C, dx, _, _, rfl, h1, cf.cl, cf.n3, gS wd nm a b c, ?_⟩
      walk_at "rd"
      refine ⟨⟨_, h2⟩, fun L nL => ?_⟩
      refine lc_it walk_tup (fun i H' => H' = upd H L (.lst (((sh.take i).filter fun y => decide (y ≠ z)).map V.str))) rfl (fun i H' _ e => e ▸ Bx.Same.tup (same_new nL) h2) ?_ ?_
      · rintro i v H4 H4' hi rfl ⟨rfl, hx⟩
        obtain ⟨y, hy, rfl⟩ := at_map hx
        refine ⟨rfl, ?_⟩
        walk_at "rd"
        refine ite2 (fun h6 => ?_) (fun h6 => ?_)
        · have hne : decide (y ≠ z) = true := by rw [← ne_str]; exact h6
          walk_at "rd"
          refine ⟨_, upd_same, ?_, ?_⟩
          · rw [List.length_map]
            exact szl (Nat.lt_of_le_of_lt (Nat.le_trans (List.length_filter_le _ _) (List.length_take_le' i sh)) (by omega))
          · rw [upd_upd, take_filter hy, show [y].filter (fun y => decide (y ≠ z)) = [y] by rw [List.filter_cons, if_pos hne, List.filter_nil], List.map_append]
            rfl
        · have hne : ¬ decide (y ≠ z) = true := by rw [← ne_str]; exact h6
          rw [take_filter hy, show [y].filter (fun y => decide (y ≠ z)) = [] by rw [List.filter_cons, if_neg hne, List.filter_nil], List.append_nil]
      rintro H4 rfl
      have sM := same_new nL (o := .lst (((sh.take (sh.map V.str).length).filter fun y => decide (y ≠ z)).map V.str))
      have hM : (upd H L (.lst (((sh.take (sh.map V.str).length).filter fun y => decide (y ≠ z)).map V.str))) L = some (.lst ((sh.filter fun y => decide (y ≠ z)).map V.str)) := by rw [upd_same, List.length_map, List.take_length]
      generalize upd H L (.lst (((sh.take (sh.map V.str).length).filter fun y => decide (y ≠ z)).map V.str)) = H4 at sM hM ⊢
      have h14 := sM _ _ h1
      walk_at "rd"
      refine ⟨p, C, dx, _, _, rfl, h14, cf.cl, cf.n1, gW wd nm a b c, ?_⟩
      walk_at "rd"
      refine ⟨p, C, dx, _, _, rfl, h14, cf.cl, cf.n2, gN wd nm a b c, ?_⟩
      walk_at "rd"
      refine ⟨p, C, dx, _, _, rfl, h14, cf.cl, cf.n4, gH wd nm a b c, ?_⟩
      refine ⟨b, _, rfl, .inl (Bx.Same.tup sM h3), ?_⟩
      walk_at "rd"
      refine ⟨sz (by rw [List.length_append, List.length_map]; show hd.length + 1 ≤ 100000; omega), fun L2 nL2 => ?_⟩
      have s5 := same_new nL2 (o := .lst (hd.map V.str ++ [V.str z]))
      have hL2 : (upd H4 L2 (.lst (hd.map V.str ++ [V.str z]))) L2 = some (.lst ((hd ++ [z]).map V.str)) := by rw [upd_same, List.map_append]; rfl
      generalize upd H4 L2 (.lst (hd.map V.str ++ [V.str z])) = H5 at s5 hL2 ⊢
      have sA := Same.trans sM s5
      walk_at "rd"
      refine ⟨p, C, dx, _, _, rfl, sA _ _ h1, cf.cl, cf.n5, gC wd nm a b c, ?_⟩
      intro x dy nx ndy _
      refine mk_of nx ndy (.inl (sq (s5 _ _ hM))) (.inl (sq hL2)) (.inr (Bx.Same.tup sA h4)) (dpAll_same sA h5) (g.hide hz) fun H' s' t' sH a1 a2 m1 m2 hP' => ⟨rfl, ?_⟩
      exact q hz x H' s' t' (Same.trans sA sH) a1 a2 m1 m2 hP'
@[irreducible] def spRev (K : PySem.W.Frag) (C CP : Addr) : Sp := fun vs H Q E => ∃ (p : Addr) (z wd nm : Str) (sh hd : List Str) (ds : List PyData), vs = [.ref p, .str z] ∧ PartAt K C H p wd nm sh hd ds ∧ Good nm sh hd ds ∧ OkZ z ∧ (¬ (z ∈ hd ∧ plainB z = true) → XN E H CP z) ∧
  (z ∈ hd → plainB z = true → ∀ x H' s' t', Same H H' → Asc s' → Asc t' → (∀ y, y ∈ s' ↔ y ∈ sh ++ [z]) → (∀ y, y ∈ t' ↔ y ∈ hd.filter fun y => decide (y ≠ z)) → PartAt K C H' x wd nm s' t' ds → Q (.ref x) H')
theorem ok_reveal {C CN CP : Addr} (cf : K02.CF K C) {f : Addr} {fd : FuncData} (F : Fun K "reveal" "Part.reveal" s_Part_reveal f fd) (C_is_name : Cal P w K mg base "is_name" 1 ["text"] spIsName) (K_P : MkP P w K mg base C CN CP) (E_InvalidPart : Err P w K mg base "InvalidPart" CP "name" "name" okS 1) :
    FnOk P w K mg base (L2.CX P w) 7 f fd ["self", "name"] (spRev K C CP) := by
  refine F.okX sc_Part_reveal (fun vs H Q E h => ?_) (fun cdv A outer s H vs Q E hr h => ?_)
  · unfold spRev at h
    obtain ⟨p, z, wd, nm, sh, hd, ds, rfl, _⟩ := h
    rfl
  · unfold spRev at h
    obtain ⟨p, z, wd, nm, sh, hd, ds, rfl, hP, g, kz, qe, q⟩ := h
    obtain ⟨dx, a, b, c, zs, h1, h2, h3, h4, h5⟩ := id hP
    have ln := g.ln
    refine ⟨_, (pss_cons (ps_if (PW.pt (pw_or (pt_cmpR op_notIn_seq (pv 1) (pe_fld (pv 0) rfl) (by rfl)) (pw_or1 (pt_not (pt_val (pe_cal C_is_name (hr.mono (by decide)) (pa_cons (pv 1) pa_nil)))))))
      (pss_one (ps_raiseE E_InvalidPart rfl (takes_of rfl rfl rfl rfl) (hr.mono (by decide)) (pv 1)))
      pss_nil)
    (pss_cons (ps_setLc (i := 2) (own := [("other", 3)]) rfl sc_Part_reveal.nd rfl rfl (sw_true rfl rfl rfl (by decide +kernel)) (pi_tup (pe_fld (pv 0) rfl)) (blkOk_by (N := n_Part_reveal) (sc := defScope s_Part_reveal) (by decide +kernel)) (fun _ _ _ _ _ => pg_name (i := 3) sc_Part_reveal.nd rfl (Or.inl rfl)) (fun _ _ _ _ _ => pts_one (pt_cmpR op_ne (pv 3) (pv 1) (nomark _))) (fun _ _ _ _ _ => (pv 3)))
    (pss_one (ps_ret (pe_makX K_P (takes_of rfl rfl rfl rfl) (hr.mono (by decide)) (pa_cons (pe_fld (pv 0) rfl) (pa_cons (pe_fld (pv 0) rfl) (pa_cons (pe_lst (StX.pa_star (pe_fld (pv 0) rfl) (pa_cons (pv 1) pa_nil))) (pa_cons (pv 2) (pa_cons (pe_fld (pv 0) rfl) pa_nil)))))))))), ?_⟩
    walk_at "rd"
    refine ⟨p, C, dx, _, _, rfl, h1, cf.cl, cf.n4, gH wd nm a b c, ?_⟩
    refine ⟨b, _, rfl, .inr h3, rfl, flat_strs hd, ?_⟩
    rw [inV_str]
    have bad : ¬ (z ∈ hd ∧ plainB z = true) → ∀ H', Same H H' → okS (.str z) ∧ ∀ (d : Addr) (H3 : Hp), Same H' H3 → H' d = none → H3 d = some (.xd [("name", .str z)]) → E (.ref CP) (some d) H3 := fun hz H' s' => ⟨⟨z, rfl, kz.r⟩, fun d H3 s3 _ hd3 => qe hz d H3 (Same.trans s' s3) hd3⟩
    walk_at "rd"
    refine ite2 (fun h0 => ?_) (fun h0 => ?_)
    · have hz : z ∉ hd := fun m => by
        rw [decide_eq_true m] at h0
        cases h0
      refine iteT ?_
      walk_at "rd"
      exact bad (fun m => hz m.1) H (Same.refl H)
    · have hz : z ∈ hd := Decidable.byContradiction fun m => h0 (by rw [decide_eq_false m]; rfl)
      walk_at "rd"
      refine ⟨by have := kz.l; omega, fun H1 s1 => ⟨_, rfl, ?_⟩⟩
      refine ite2 (fun h6 => ?_) (fun h6 => ?_)
      · have hp : ¬ plainB z = true := fun m => by
          have h7 : (!plainB z) = true := h6
          rw [m] at h7
          cases h7
        walk_at "rd"
        exact bad (fun m => hp m.2) H1 s1
      · have hp : plainB z = true := Decidable.byContradiction fun m => h6 (by
          show (!plainB z) = true
          rw [Bool.eq_false_iff.mpr m]
          rfl)
        have h11 := s1 _ _ h1
        walk_at "rd"
        refine ⟨p, C, dx, _, _, rfl, h11, cf.cl, cf.n4, gH wd nm a b c, ?_⟩
        walk_at "rd"
        have h31 := Bx.Same.tup s1 h3
        refine ⟨⟨_, h31⟩, fun L nL => ?_⟩
        refine lc_it walk_tup (fun i H' => H' = upd H1 L (.lst (((hd.take i).filter fun y => decide (y ≠ z)).map V.str))) rfl (fun i H' _ e => e ▸ Bx.Same.tup (same_new nL) h31) ?_ ?_
        · rintro i v H4 H4' hi rfl ⟨rfl, hx⟩
          obtain ⟨y, hy, rfl⟩ := at_map hx
          refine ⟨rfl, ?_⟩
          walk_at "rd"
          refine ite2 (fun h6 => ?_) (fun h6 => ?_)
          · have hne : decide (y ≠ z) = true := by rw [← ne_str]; exact h6
            walk_at "rd"
            refine ⟨_, upd_same, ?_, ?_⟩
            · rw [List.length_map]
              exact szl (Nat.lt_of_le_of_lt (Nat.le_trans (List.length_filter_le _ _) (List.length_take_le' i hd)) (by omega))
            · rw [upd_upd, take_filter hy, show [y].filter (fun y => decide (y ≠ z)) = [y] by rw [List.filter_cons, if_pos hne, List.filter_nil], List.map_append]
              rfl
          · have hne : ¬ decide (y ≠ z) = true := by rw [← ne_str]; exact h6
            rw [take_filter hy, show [y].filter (fun y => decide (y ≠ z)) = [] by rw [List.filter_cons, if_neg hne, List.filter_nil], List.append_nil]
        rintro H4 rfl
        have sM := same_new nL (o := .lst (((hd.take (hd.map V.str).length).filter fun y => decide (y ≠ z)).map V.str))
        have hM : (upd H1 L (.lst (((hd.take (hd.map V.str).length).filter fun y => decide (y ≠ z)).map V.str))) L = some (.lst ((hd.filter fun y => decide (y ≠ z)).map V.str)) := by rw [upd_same, List.length_map, List.take_length]
        generalize upd H1 L (.lst (((hd.take (hd.map V.str).length).filter fun y => decide (y ≠ z)).map V.str)) = H4 at sM hM ⊢
        have s14 := Same.trans s1 sM
        have h14 := s14 _ _ h1
        walk_at "rd"
        refine ⟨p, C, dx, _, _, rfl, h14, cf.cl, cf.n1, gW wd nm a b c, ?_⟩
        walk_at "rd"
        refine ⟨p, C, dx, _, _, rfl, h14, cf.cl, cf.n2, gN wd nm a b c, ?_⟩
        walk_at "rd"
        refine ⟨p, C, dx, _, _, rfl, h14, cf.cl, cf.n3, gS wd nm a b c, ?_⟩
        refine ⟨a, _, rfl, .inl (Bx.Same.tup s14 h2), ?_⟩
        walk_at "rd"
        refine ⟨sz (by rw [List.length_append, List.length_map]; show sh.length + 1 ≤ 100000; omega), fun L2 nL2 => ?_⟩
        have s5 := same_new nL2 (o := .lst (sh.map V.str ++ [V.str z]))
        have hL2 : (upd H4 L2 (.lst (sh.map V.str ++ [V.str z]))) L2 = some (.lst ((sh ++ [z]).map V.str)) := by rw [upd_same, List.map_append]; rfl
        generalize upd H4 L2 (.lst (sh.map V.str ++ [V.str z])) = H5 at s5 hL2 ⊢
        have sA := Same.trans s14 s5
        walk_at "rd"
        refine ⟨p, C, dx, _, _, rfl, sA _ _ h1, cf.cl, cf.n5, gC wd nm a b c, ?_⟩
        intro x dy nx ndy _
        refine mk_of nx ndy (.inl (sq hL2)) (.inl (sq (s5 _ _ hM))) (.inr (Bx.Same.tup sA h4)) (dpAll_same sA h5) (g.show hz hp) fun H' s' t' sH a1 a2 m1 m2 hP' => ⟨rfl, ?_⟩
        exact q hz hp x H' s' t' (Same.trans sA sH) a1 a2 m1 m2 hP'
@[irreducible] def spWith (K : PySem.W.Frag) (C : Addr) : Sp := fun vs H Q _ => ∃ (p l : Addr) (wd nm : Str) (sh hd : List Str) (ds : List PyData) (ys : List V) (es : List PyData), vs = [.ref p, .ref l] ∧ PartAt K C H p wd nm sh hd ds ∧ Asc sh ∧ Asc hd ∧ Good nm sh hd es ∧ (SqL K H l ys ∨ SqT K H l ys) ∧ DpAll K H ys es ∧
  ∀ x H', Same H H' → PartAt K C H' x wd nm sh hd es → Q (.ref x) H'
theorem ok_with {C CN CP : Addr} (cf : K02.CF K C) {f : Addr} {fd : FuncData} (F : Fun K "with_constraints" "Part.with_constraints" s_Part_with_constraints f fd) (K_P : MkP P w K mg base C CN CP) : FnOk P w K mg base CX0 7 f fd ["self", "constraints"] (spWith K C) := by
  refine F.ok sc_Part_with_constraints (fun vs H Q E h => ?_) (fun cdv A outer s H vs Q E hr h => ?_)
  · unfold spWith at h
    obtain ⟨p, l, wd, nm, sh, hd, ds, ys, es, rfl, _⟩ := h
    rfl
  · unfold spWith at h
    obtain ⟨p, l, wd, nm, sh, hd, ds, ys, es, rfl, hP, as, ah, g, hl, he, q⟩ := h
    obtain ⟨dx, a, b, c, zs, h1, h2, h3, h4, h5⟩ := id hP
    refine ⟨_, (pss_one (ps_ret (pe_makN K_P (hr.mono (by decide)) (pa_cons (pe_fld (pv 0) rfl) (pa_cons (pe_fld (pv 0) rfl) (pa_cons (pe_fld (pv 0) rfl) (pa_cons (pe_fld (pv 0) rfl) (pa_cons (pv 1) pa_nil)))))))), ?_⟩
    walk_at "rd"
    refine ⟨p, C, dx, _, _, rfl, h1, cf.cl, cf.n1, gW wd nm a b c, ?_⟩
    walk_at "rd"
    refine ⟨p, C, dx, _, _, rfl, h1, cf.cl, cf.n2, gN wd nm a b c, ?_⟩
    walk_at "rd"
    refine ⟨p, C, dx, _, _, rfl, h1, cf.cl, cf.n3, gS wd nm a b c, ?_⟩
    walk_at "rd"
    refine ⟨p, C, dx, _, _, rfl, h1, cf.cl, cf.n4, gH wd nm a b c, ?_⟩
    walk_at "rd"
    intro x dy nx ndy _
    refine mk_of nx ndy (.inr h2) (.inr h3) hl he g fun H' s' t' sH a1 a2 m1 m2 hP' => ⟨rfl, ?_⟩
    rw [asc_eq a1 as m1, asc_eq a2 ah m2] at hP'
    exact q x H' sH hP'
@[irreducible] def spCalled (K : PySem.W.Frag) (C CN : Addr) : Sp := fun vs H Q E => ∃ (p : Addr) (z wd nm : Str) (sh hd : List Str) (ds : List PyData), vs = [.ref p, .str z] ∧ PartAt K C H p wd nm sh hd ds ∧ Asc sh ∧ Asc hd ∧ Good nm sh hd ds ∧ OkZ z ∧ (plainB z = false → XN E H CN z) ∧
  (plainB z = true → ∀ x H', Same H H' → PartAt K C H' x wd z sh hd ds → Q (.ref x) H')
theorem ok_called {C CN CP : Addr} (cf : K02.CF K C) {f : Addr} {fd : FuncData} (F : Fun K "called" "Part.called" s_Part_called f fd) (K_P : MkP P w K mg base C CN CP) : FnOk P w K mg base (L2.CX P w) 7 f fd ["self", "name"] (spCalled K C CN) := by
  refine F.okX sc_Part_called (fun vs H Q E h => ?_) (fun cdv A outer s H vs Q E hr h => ?_)
  · unfold spCalled at h
    obtain ⟨p, z, wd, nm, sh, hd, ds, rfl, _⟩ := h
    rfl
  · unfold spCalled at h
    obtain ⟨p, z, wd, nm, sh, hd, ds, rfl, hP, as, ah, g, kz, qe, q⟩ := h
    obtain ⟨dx, a, b, c, zs, h1, h2, h3, h4, h5⟩ := id hP
    have ln := g.ln
    refine ⟨_, (pss_one (ps_ret (pe_makX K_P (takes_of rfl rfl rfl rfl) (hr.mono (by decide)) (pa_cons (pe_fld (pv 0) rfl) (pa_cons (pv 1) (pa_cons (pe_fld (pv 0) rfl) (pa_cons (pe_fld (pv 0) rfl) (pa_cons (pe_fld (pv 0) rfl) pa_nil)))))))), ?_⟩
    walk_at "rd"
    refine ⟨p, C, dx, _, _, rfl, h1, cf.cl, cf.n1, gW wd nm a b c, ?_⟩
    walk_at "rd"
    refine ⟨p, C, dx, _, _, rfl, h1, cf.cl, cf.n3, gS wd nm a b c, ?_⟩
    walk_at "rd"
    refine ⟨p, C, dx, _, _, rfl, h1, cf.cl, cf.n4, gH wd nm a b c, ?_⟩
    walk_at "rd"
    refine ⟨p, C, dx, _, _, rfl, h1, cf.cl, cf.n5, gC wd nm a b c, ?_⟩
    intro x dy nx ndy _
    have no : plainB z = false → badN z sh hd = some z := fun e => by
      unfold badN
      rw [List.find?_cons, e]
      rfl
    refine mk_gen nx ndy (.inr h2) (.inr h3) (.inr h4) h5 (by omega) (by omega) kz g.ks g.kh g.td g.dl (fun hb nd H' s' t' sH a1 a2 m1 m2 hP' => ⟨rfl, ?_⟩) (fun y hy => ?_) (fun hb y hy => absurd hy.1 (M02.count_nodup g.nd y))
    · have pz : plainB z = true := by
        cases e : plainB z with
        | true => rfl
        | false =>
          rw [no e] at hb
          cases hb
      rw [asc_eq a1 as m1, asc_eq a2 ah m2] at hP'
      exact q pz x H' sH hP'
    · cases e : plainB z with
      | true =>
        rw [bad_none e g.sb g.hb] at hy
        cases hy
      | false =>
        rw [no e] at hy
        cases hy
        exact qe e
@[irreducible] def spBare (K : PySem.W.Frag) (C : Addr) : Sp := fun vs H Q _ => ∃ (wd nm : Str), vs = [.ref C, .str wd, .str nm] ∧ Good nm [] [] [] ∧ ∀ x H', Same H H' → PartAt K C H' x wd nm [] [] [] → Q (.ref x) H'
theorem ok_bare {C CN CP : Addr} {f : Addr} {fd : FuncData} (F : Fun K "bare" "Part.bare" s_Part_bare f fd) (K_P : MkP P w K mg base C CN CP) : FnOk P w K mg base CX0 7 f fd ["cls", "word", "name"] (spBare K C) := by
  refine F.ok sc_Part_bare (fun vs H Q E h => ?_) (fun cdv A outer s H vs Q E hr h => ?_)
  · unfold spBare at h
    obtain ⟨wd, nm, rfl, _⟩ := h
    rfl
  · unfold spBare at h
    obtain ⟨wd, nm, rfl, g, q⟩ := h
    refine ⟨_, (pss_one (ps_ret (pe_makL (i := 0) K_P (hr.mono (by decide)) rfl (by exact .inl rfl) (pa_cons (pv 1) (pa_cons (pv 2) (pa_cons (pe_tup pa_nil) (pa_cons (pe_tup pa_nil) (pa_cons (pe_tup pa_nil) pa_nil)))))))), ?_⟩
    walk_at "rd"
    refine ⟨Nat.zero_le _, fun t1 n1 => ?_⟩
    have s1 := same_new n1 (o := .tup [])
    walk_at "rd"
    refine ⟨Nat.zero_le _, fun t2 n2 => ?_⟩
    have s2 := same_new n2 (o := .tup [])
    walk_at "rd"
    refine ⟨Nat.zero_le _, fun t3 n3 => ?_⟩
    have s3 := same_new n3 (o := .tup [])
    intro x dy nx ndy _
    refine mk_of (sh := []) (hd := []) (zs := []) (ds := []) nx ndy (.inr (sqt (s3 _ _ (s2 _ _ upd_same)))) (.inr (sqt (s3 _ _ upd_same))) (.inr (sqt upd_same)) .nil g fun H' s' t' sH a1 a2 m1 m2 hP' => ⟨rfl, ?_⟩
    rw [asc_eq a1 (show Asc [] from .nil) m1, asc_eq a2 (show Asc [] from .nil) m2] at hP'
    exact q x H' (Same.trans s1 (Same.trans s2 (Same.trans s3 sH))) hP'
end
end K02
namespace K02
local macro_rules | `(tactic| walk_at "rd") => `(tactic| repeat (first | refine ⟨rfl, ?_⟩ | refine ⟨_, rfl, ?_⟩ | refine ⟨_, _, rfl, rfl, ?_⟩ | refine ⟨⟨_, rfl⟩, ?_⟩))
open PySem PySem.Spec PyProof.Rows L2 Bx TL Dx Zx Ow Sup Er NdefX Px
open M02 (Dup)
section
variable {P : Program} {w : World} {K : PySem.W.Frag} {mg : Str → Option Value} {base : Heap}
/-! ### the law's own: draws -/
theorem int_at {ns : List Int} {k : Nat} (h : k < ns.length) : atI (ns.map V.int) (k : Int) = some (V.int ns[k]) := atI_nat (by rw [List.getElem?_map, List.getElem?_eq_getElem h]; rfl)
def spSource (K : PySem.W.Frag) : Sp := fun vs H Q _ => ∃ (a : Addr) (ns : List Int) (k : Nat), vs = [.ref a, .int (k : Int)] ∧ SqL K H a (ns.map V.int) ∧ k ≤ 100 ∧ ∀ p n c, H p = none → Q (.ref p) (upd H p (.lst [.int n, .int c]))
theorem ok_source {f : Addr} {fd : FuncData} (F : Fun K "_law_source" "_law_source" s__law_source f fd) (m_len : mg "len" = none) (m_int : mg "int" = none) : FnOk P w K mg base CX0 1 f fd ["_law_script", "_law_k"] (spSource K) := by
  refine F.ok sc__law_source (fun vs H Q E h => ?_) (fun cdv A outer s H vs Q E hr h => ?_)
  · obtain ⟨a, ns, k, rfl, _⟩ := h
    rfl
  · obtain ⟨a, ns, k, rfl, hS, hk, q⟩ := h
    refine ⟨_, (pss_cons (ps_set (i := 2) sc__law_source.nd rfl (Or.inl rfl) pe_int)
    (pss_cons (ps_if (pt_cmpR op_lt (pv 1) (pe_callB call_len_seq (by rfl) m_len PySem.boot_len (pa_cons (pv 0) pa_nil)) (nomark _))
      (pss_one (ps_set (i := 2) sc__law_source.nd rfl (Or.inl rfl) (pe_callTy (T := "int") call_int1 (by rfl) m_int (by decide +kernel) (pa_cons (pe_ix ix_list (pv 0) (pv 1) (fun _ _ => rfl)) pa_nil))))
      pss_nil)
    (pss_one (ps_ret (pe_lst (pa_cons (pv 2) (pa_cons (pe_op op_add (pe_op op_mul pe_int (pv 1)) (pe_callB call_len_seq (by rfl) m_len PySem.boot_len (pa_cons (pv 0) pa_nil))) pa_nil))))))), ?_⟩
    walk_at "rd"
    refine ⟨_, _, rfl, .inl hS, ?_⟩
    walk_at "rd"
    refine ite2 (fun h0 => ?_) (fun h0 => ?_)
    · have h1 : (k : Int) < ((ns.map V.int).length : Nat) := of_decide_eq_true h0
      rw [List.length_map] at h1
      walk_at "rd"
      refine ⟨_, _, _, _, rfl, rfl, hS, int_at (k := k) (by omega), ?_⟩
      refine .inl ⟨_, rfl, ?_⟩
      walk_at "rd"
      refine ⟨.inr ⟨by omega, by omega⟩, ?_⟩
      walk_at "rd"
      refine ⟨_, _, rfl, .inl hS, ?_⟩
      walk_at "rd"
      exact ⟨sz (by show 2 ≤ 100000; decide), fun p np => q p _ _ np⟩
    · walk_at "rd"
      refine ⟨.inr ⟨by omega, by omega⟩, ?_⟩
      walk_at "rd"
      refine ⟨_, _, rfl, .inl hS, ?_⟩
      walk_at "rd"
      exact ⟨sz (by show 2 ≤ 100000; decide), fun p np => q p _ _ np⟩
theorem modb (x : Int) {k : Int} (h : 0 < k) (h2 : k ≤ 2 ^ 64) : -(2 ^ 64) < x % k ∧ x % k < 2 ^ 64 := by
  have a := Int.emod_nonneg x (show k ≠ 0 by omega)
  have b := Int.emod_lt_of_pos x h
  omega
@[irreducible] def spDraw : Sp := fun vs H Q _ => ∃ (a : Addr) (n c lim : Int), vs = [.ref a, .int lim] ∧ H a = some (.lst [.int n, .int c]) ∧ 0 < lim ∧ lim < 1073741824 ∧ ∀ r n' c', 0 ≤ r → r < lim → Q (.int r) (upd H a (.lst [.int n', .int c']))
theorem ok_draw {f : Addr} {fd : FuncData} (F : Fun K "_law_draw" "_law_draw" s__law_draw f fd) (m_int : mg "int" = none) : FnOk P w K mg base CX0 1 f fd ["_law_source_here", "_law_limit"] spDraw := by
  refine F.ok sc__law_draw (fun vs H Q E h => ?_) (fun cdv A outer s H vs Q E hr h => ?_)
  · unfold spDraw at h
    obtain ⟨a, n, c, lim, rfl, _⟩ := h
    rfl
  · unfold spDraw at h
    obtain ⟨a, n, c, lim, rfl, hA, h0, h1, q⟩ := h
    have hfm : ∀ x : Int, 0 ≤ x.fmod lim ∧ x.fmod lim < lim := fun x => by
      rw [Int.fmod_eq_emod_of_nonneg _ (by omega)]
      exact ⟨Int.emod_nonneg _ (by omega), Int.emod_lt_of_pos _ h0⟩
    refine ⟨_, (pss_cons (ps_set (i := 2) sc__law_draw.nd rfl (Or.inl rfl) (pe_ix ix_list (pv 0) pe_int (fun _ _ => rfl)))
    (pss_cons (ps_if (pt_cmpR op_ge (pv 2) (pe_op op_pow pe_int pe_int) (nomark _))
      (pss_cons (ps_asg (pe_op op_fdivN (pv 2) (pv 1)) (pg_sub (pv 0) pe_int set_list))
    (pss_one (ps_ret (pe_op op_modN (pe_callTy (T := "int") call_int1 (by rfl) m_int (by decide +kernel) (pa_cons (pv 2) pa_nil)) (pv 1)))))
      pss_nil)
    (pss_cons (ps_asg (pe_op op_add (pe_ix ix_list (pv 0) pe_int (fun _ _ => rfl)) pe_int) (pg_sub (pv 0) pe_int set_list))
    (pss_cons (ps_set (i := 3) sc__law_draw.nd rfl (Or.inl rfl) (pe_op op_mod (pe_callTy (T := "int") call_int1 (by rfl) m_int (by decide +kernel) (pa_cons (pe_op op_add (pe_op op_add (pe_op op_mul (pv 2) pe_int) (pe_op op_mul (pe_ix ix_list (pv 0) pe_int (fun _ _ => rfl)) pe_int)) pe_int) pa_nil)) pe_int))
    (pss_cons (ps_set (i := 3) sc__law_draw.nd rfl (Or.inl rfl) (pe_op op_mod (pe_callTy (T := "int") call_int1 (by rfl) m_int (by decide +kernel) (pa_cons (pe_op op_add (pe_op op_add (pe_op op_mul (pv 3) (pv 3)) (pv 2)) (pe_op op_mul (pe_ix ix_list (pv 0) pe_int (fun _ _ => rfl)) pe_int)) pa_nil)) pe_int))
    (pss_cons (ps_set (i := 3) sc__law_draw.nd rfl (Or.inl rfl) (pe_op op_mod (pe_callTy (T := "int") call_int1 (by rfl) m_int (by decide +kernel) (pa_cons (pe_op op_add (pe_op op_add (pe_op op_mul (pv 3) (pv 3)) (pe_op op_fdiv (pv 3) pe_int)) pe_int) pa_nil)) pe_int))
    (pss_one (ps_ret (pe_op op_modN (pe_op op_fdiv (pe_callTy (T := "int") call_int1 (by rfl) m_int (by decide +kernel) (pa_cons (pv 3) pa_nil)) pe_int) (pv 1)))))))))), ?_⟩
    walk_at "rd"
    refine ⟨_, _, _, _, rfl, rfl, sq hA, atI_nat (j := 0) rfl, ?_⟩
    walk_at "rd"
    refine ⟨⟨by decide, by decide, by decide⟩, ?_⟩
    walk_at "rd"
    refine ite2 (fun hb => ?_) (fun hb => ?_)
    · walk_at "rd"
      refine ⟨⟨by omega, by omega⟩, ?_⟩
      walk_at "rd"
      refine ⟨_, _, _, 0, rfl, rfl, hA, rfl, ?_⟩
      walk_at "rd"
      refine .inl ⟨_, rfl, ?_⟩
      walk_at "rd"
      refine ⟨by omega, ?_⟩
      exact q _ _ _ (hfm _).1 (hfm _).2
    · walk_at "rd"
      refine ⟨_, _, _, _, rfl, rfl, sq hA, atI_nat (j := 1) rfl, ?_⟩
      walk_at "rd"
      refine ⟨_, _, _, 1, rfl, rfl, hA, rfl, ?_⟩
      -- the first mixing
      walk_at "rd"
      refine ⟨.inr ⟨by decide, by decide⟩, ?_⟩
      walk_at "rd"
      refine ⟨_, _, _, _, rfl, rfl, sq upd_same, atI_nat (j := 1) rfl, ?_⟩
      walk_at "rd"
      refine ⟨.inr ⟨by decide, by decide⟩, ?_⟩
      walk_at "rd"
      refine .inl ⟨_, rfl, ?_⟩
      walk_at "rd"
      refine ⟨by show (0 : Int) < 2147483647; decide, ?_⟩
      -- the second
      walk_at "rd"
      refine ⟨.inl (modb _ (by decide) (by decide)), ?_⟩
      walk_at "rd"
      refine ⟨_, _, _, _, rfl, rfl, sq upd_same, atI_nat (j := 1) rfl, ?_⟩
      walk_at "rd"
      refine ⟨.inr ⟨by decide, by decide⟩, ?_⟩
      walk_at "rd"
      refine .inl ⟨_, rfl, ?_⟩
      walk_at "rd"
      refine ⟨by show (0 : Int) < 2147483629; decide, ?_⟩
      -- the third
      walk_at "rd"
      refine ⟨.inl (modb _ (by decide) (by decide)), ?_⟩
      walk_at "rd"
      refine ⟨⟨by decide, by decide⟩, ?_⟩
      walk_at "rd"
      refine .inl ⟨_, rfl, ?_⟩
      walk_at "rd"
      refine ⟨by show (0 : Int) < 2147483587; decide, ?_⟩
      -- the answer
      walk_at "rd"
      refine .inl ⟨_, rfl, ?_⟩
      walk_at "rd"
      refine ⟨⟨by decide, by decide⟩, ?_⟩
      walk_at "rd"
      refine ⟨by omega, ?_⟩
      exact q _ _ _ (hfm _).1 (hfm _).2
/-- some other source, or none -/
theorem draw_of {H : Hp} {a : Addr} {lim : Int} {Q : VK} {E : XK} (hA : Src H a) (h0 : 0 < lim ∧ lim < 1073741824) (q : ∀ r H', 0 ≤ r → r < lim → SameBut a H H' → Src H' a → Q (.int r) H') : spDraw [.ref a, .int lim] H Q E := by
  obtain ⟨n, c, hA⟩ := hA
  unfold spDraw
  exact ⟨a, n, c, lim, rfl, hA, h0.1, h0.2, fun r n' c' h1 h2 => q r _ h1 h2 SameBut.upd ⟨n', c', upd_same⟩⟩

theorem set_ok {n j : Nat} (h : j < n) : ixN n (j : Int) = some j := by
  unfold ixN
  simp [h]
abbrev CDraw (P : Program) (w : World) (K : PySem.W.Frag) (mg : Str → Option Value) (base : Heap) : Prop := Cal P w K mg base "_law_draw" 1 ["_law_source_here", "_law_limit"] spDraw
abbrev pool8 : List Str := [Str.ofString "a", Str.ofString "b", Str.ofString "a1", Str.ofString "ab", Str.ofString "c9", Str.ofString "zz", Str.ofString "q", Str.ofString "abcdefgh"]
abbrev pool5 : List Str := [Str.ofString "d", Str.ofString "e", Str.ofString "f", Str.ofString "g", Str.ofString "h"]
abbrev bads : List Str := [Str.ofString "", Str.ofString "A", Str.ofString "9a", Str.ofString "abcdefghi", Str.ofString "a b", Str.ofString "a_", Str.ofString "a..b", Str.ofString ".a", Str.ofString "a.", Str.ofString "a.B", Str.ofString "a.b"]
theorem ok8 {z : Str} (h : z ∈ pool8) : OkZ z := okZ_of ((show ∀ x ∈ pool8, okZ x = true by decide +kernel) z h)
theorem ok5 {z : Str} (h : z ∈ pool5) : OkZ z := okZ_of ((show ∀ x ∈ pool5, okZ x = true by decide +kernel) z h)
theorem okB {z : Str} (h : z ∈ bads) : OkZ z := okZ_of ((show ∀ x ∈ bads, okZ x = true by decide +kernel) z h)
theorem okD {x y : Str} (h : x ∈ pool8) (k : y ∈ pool8) : OkZ (x ++ Str.ofString "." ++ y) := okZ_of ((show ∀ x ∈ pool8, ∀ y ∈ pool8, okZ (x ++ Str.ofString "." ++ y) = true by decide +kernel) x h y k)
theorem elt_of {l : List Str} {r : Int} (r0 : 0 ≤ r) (r1 : r < (l.length : Int)) : ∃ x : Str, x ∈ l ∧ atI (l.map V.str) r = some (.str x) := by
  obtain ⟨n, rfl⟩ := Int.eq_ofNat_of_zero_le r0
  have hn : n < l.length := by omega
  exact ⟨l[n], List.getElem_mem hn, atI_nat (by rw [List.getElem?_map, List.getElem?_eq_getElem hn]; rfl)⟩
@[irreducible] def spPlain : Sp := fun vs H Q _ => ∃ s : Addr, vs = [.ref s] ∧ Src H s ∧ ∀ z H', SameBut s H H' → Src H' s → z ∈ pool8 → Q (.str z) H'
theorem ok_plain {f : Addr} {fd : FuncData} (F : Fun K "_law_plain" "_law_plain" s__law_plain f fd) (C__law_draw : CDraw P w K mg base) : FnOk P w K mg base CX0 2 f fd ["_law_source_here"] spPlain := by
  refine F.ok sc__law_plain (fun vs H Q E h => ?_) (fun cdv A outer s H vs Q E hr h => ?_)
  · unfold spPlain at h
    obtain ⟨s, rfl, _⟩ := h
    rfl
  · unfold spPlain at h
    obtain ⟨src, rfl, hA, q⟩ := h
    refine ⟨_, (pss_one (ps_ret (pe_ix ix_list (pe_lst (pa_cons pe_str (pa_cons pe_str (pa_cons pe_str (pa_cons pe_str (pa_cons pe_str (pa_cons pe_str (pa_cons pe_str (pa_cons pe_str pa_nil))))))))) (pe_cal C__law_draw (hr.mono (by decide)) (pa_cons (pv 0) (pa_cons pe_int pa_nil))) (fun _ _ => rfl)))), ?_⟩
    walk_at "rd"
    refine ⟨sz (by decide), fun L nL => ?_⟩
    have nLs := src_ne hA nL
    have sL := same_new nL (o := .lst (pool8.map V.str))
    walk_at "rd"
    refine draw_of (src_same hA sL) ⟨by decide, by decide⟩ fun r H1 r0 r1 s1 hA1 => ?_
    obtain ⟨x, hx, ax⟩ := elt_of (l := pool8) r0 r1
    refine ⟨_, _, _, _, rfl, rfl, sq (s1 _ _ nLs.symm upd_same), ax, ?_⟩
    exact q x H1 ((Bx.Same.but sL).trans s1) hA1 hx
theorem plain_of {H : Hp} {a : Addr} {Q : VK} {E : XK} (hA : Src H a) (q : ∀ z H', SameBut a H H' → Src H' a → z ∈ pool8 → Q (.str z) H') : spPlain [.ref a] H Q E := by
  unfold spPlain
  exact ⟨a, rfl, hA, q⟩
@[irreducible] def spNm : Sp := fun vs H Q _ => ∃ (s : Addr) (b : Bool), vs = [.ref s, .bl b] ∧ Src H s ∧ ∀ r (ms : List Str) H', SameBut s H H' → Src H' s → H r = none → H' r = some (.lst (ms.map V.str)) → ms.length ≤ 4 → (∀ z ∈ ms, OkZ z) → Q (.ref r) H'
theorem ok_lnames {f : Addr} {fd : FuncData} (F : Fun K "_law_names" "_law_names" s__law_names f fd) (m_range : mg "range" = none) (m_len : mg "len" = none) (C__law_draw : CDraw P w K mg base) (C__law_plain : Cal P w K mg base "_law_plain" 2 ["_law_source_here"] spPlain) :
    FnOk P w K mg base CX0 3 f fd ["_law_source_here", "_law_dotted"] spNm := by
  refine F.ok sc__law_names (fun vs H Q E h => ?_) (fun cdv A outer s H vs Q E hr h => ?_)
  · unfold spNm at h
    obtain ⟨s, b, rfl, _⟩ := h
    rfl
  · unfold spNm at h
    obtain ⟨src, dot, rfl, hA, q⟩ := h
    refine ⟨_, (pss_cons (ps_set (i := 2) sc__law_names.nd rfl (Or.inl rfl) (pe_lst pa_nil))
    (pss_cons (ps_for PassesOwn.never rfl (pi_range1 (by rfl) m_range (pa_cons (pe_cal C__law_draw (hr.mono (by decide)) (pa_cons (pv 0) (pa_cons pe_int pa_nil))) pa_nil)) (pg_name (i := 3) sc__law_names.nd rfl (Or.inl rfl))
      (pss_cons (ps_set (i := 4) sc__law_names.nd rfl (Or.inl rfl) (pe_cal C__law_plain (hr.mono (by decide)) (pa_cons (pv 0) pa_nil)))
    (pss_cons (ps_if (PW.pt (pw_and (pt_val (pv 1)) (pw_and1 (pt_cmpR op_eq (pe_cal C__law_draw (hr.mono (by decide)) (pa_cons (pv 0) (pa_cons pe_int pa_nil))) pe_int (nomark _)))))
      (pss_one (ps_set (i := 4) sc__law_names.nd rfl (Or.inl rfl) (pe_op op_add_str (pe_op op_add_str (pv 4) pe_str) (pe_cal C__law_plain (hr.mono (by decide)) (pa_cons (pv 0) pa_nil)))))
      pss_nil)
    (pss_cons (ps_if (PW.pt (pw_and (pt_cmpR op_gt (pe_cal C__law_draw (hr.mono (by decide)) (pa_cons (pv 0) (pa_cons pe_int pa_nil))) pe_int (nomark _)) (pw_and1 (pt_cmpR op_in_seq (pv 4) (pv 2) (by rfl)))))
      (pss_one (ps_set (i := 4) sc__law_names.nd rfl (Or.inl rfl) (pe_ix ix_list (pe_lst (pa_cons pe_str (pa_cons pe_str (pa_cons pe_str (pa_cons pe_str (pa_cons pe_str pa_nil)))))) (pv 3) (fun _ _ => rfl))))
      pss_nil)
    (pss_one (ps_expr (pe_bm PySem.F.plainAttrs_list PySem.F.slot_list_append PySem.F.type_list_append mt_append (pv 2) (pa_cons (pv 4) pa_nil))))))))
    (pss_cons (ps_if (PW.pt (pw_and (pt_cmpR op_eq (pe_cal C__law_draw (hr.mono (by decide)) (pa_cons (pv 0) (pa_cons pe_int pa_nil))) pe_int (nomark _)) (pw_and1 (pt_cmpR op_gt (pe_callB call_len_seq (by rfl) m_len PySem.boot_len (pa_cons (pv 2) pa_nil)) pe_int (nomark _)))))
      (pss_cons (ps_set (i := 5) sc__law_names.nd rfl (Or.inl rfl) (pe_ix ix_list (pe_lst (pa_cons pe_str (pa_cons pe_str (pa_cons pe_str (pa_cons pe_str (pa_cons pe_str (pa_cons pe_str (pa_cons pe_str (pa_cons pe_str (pa_cons pe_str (pa_cons pe_str (pa_cons pe_str pa_nil)))))))))))) (pe_cal C__law_draw (hr.mono (by decide)) (pa_cons (pv 0) (pa_cons pe_int pa_nil))) (fun _ _ => rfl)))
    (pss_one (ps_asg (pv 5) (pg_sub (pv 2) (pe_cal C__law_draw (hr.mono (by decide)) (pa_cons (pv 0) (pa_cons (pe_callB call_len_seq (by rfl) m_len PySem.boot_len (pa_cons (pv 2) pa_nil)) pa_nil))) set_list))))
      pss_nil)
    (pss_one (ps_ret (pv 2)))))), ?_⟩
    walk_at "rd"
    refine ⟨Nat.zero_le _, fun L nL => ?_⟩
    have nLs := src_ne hA nL
    have sL := same_new nL (o := .lst [])
    walk_at "rd"
    refine draw_of (src_same hA sL) ⟨by decide, by decide⟩ fun n H1 n0 n1 s1 hA1 => ?_
    have hL1 := s1 _ _ nLs.symm (upd_same (H := H) (a := L) (o := .lst []))
    have S1 : SameBut src H H1 := (Bx.Same.but sL).trans s1
    obtain ⟨nn, rfl⟩ := Int.eq_ofNat_of_zero_le n0
    refine ⟨_, rfl, by omega, by omega, for_it walk_range (fun i σ H' => ∃ (o3 o4 : Option V) (ms : List Str), σ = [some (.ref src), some (.bl dot), some (.ref L), o3, o4, none] ∧ SameBut src H H' ∧ Src H' src ∧ H' L = some (.lst (ms.map V.str)) ∧ ms.length = i ∧ ∀ z ∈ ms, OkZ z)
      ⟨none, none, [], rfl, S1, hA1, hL1, rfl, fun z hz => nomatch hz⟩ (fun _ _ _ _ _ => trivial) ?_ ?_⟩
    · rintro i z σ H2 H2' hi ⟨o3, o4, ms, rfl, s2, hA2, hL2, hml, hms⟩ ⟨rfl, rfl⟩
      have hi4 : i < 4 := by omega
      walk_at "rd"
      refine plain_of hA2 fun x H3 s3 hA3 hx => ?_
      have hL3 := s3 _ _ nLs.symm hL2
      walk_at "rd"
      apply cont_of2 (R := fun (y : Str) (H' : Hp) => OkZ y ∧ SameBut src H H' ∧ Src H' src ∧ H' L = some (.lst (ms.map V.str)))
      · intro k
        refine ite2 (fun hd => ?_) (fun hd => ?_)
        · walk_at "rd"
          refine draw_of hA3 ⟨by decide, by decide⟩ fun d H4 _ _ s4 hA4 => ?_
          have hL4 := s4 _ _ nLs.symm hL3
          have S4 : SameBut src H H4 := s2.trans (s3.trans s4)
          walk_at "rd"
          refine ite2 (fun h0 => ?_) (fun h0 => ?_)
          · walk_at "rd"
            have lx := (ok8 hx).l
            refine ⟨sz (by show x.length + 1 ≤ 100000; omega), ?_⟩
            walk_at "rd"
            refine plain_of hA4 fun y H5 s5 hA5 hy => ?_
            have ly := (ok8 hy).l
            refine ⟨_, _, rfl, rfl, sz (by rw [app_len]; show x.length + 1 + y.length ≤ 100000; omega), ?_⟩
            have kd := okD hx hy
            generalize x ++ Str.ofString "." ++ y = xy at kd ⊢
            exact k xy H5 ⟨kd, S4.trans s5, hA5, s5 _ _ nLs.symm hL4⟩
          · exact k x H4 ⟨ok8 hx, S4, hA4, hL4⟩
        · exact k x H3 ⟨ok8 hx, s2.trans s3, hA3, hL3⟩
      rintro y H4 ⟨ky, S4, hA4, hL4⟩
      walk_at "rd"
      refine draw_of hA4 ⟨by decide, by decide⟩ fun d H5 _ _ s5 hA5 => ?_
      have hL5 := s5 _ _ nLs.symm hL4
      have S5 := S4.trans s5
      walk_at "rd"
      apply cont_of2 (R := fun (y : Str) (H' : Hp) => OkZ y ∧ SameBut src H H' ∧ Src H' src ∧ H' L = some (.lst (ms.map V.str)))
      · intro k
        refine ite2 (fun h0 => ?_) (fun h0 => ?_)
        · walk_at "rd"
          refine ⟨L, _, rfl, .inl (sq hL5), rfl, flat_strs ms, ?_⟩
          walk_at "rd"
          refine ite2 (fun h1 => ?_) (fun h1 => ?_)
          · walk_at "rd"
            refine ⟨sz (by decide), fun L2 nL2 => ?_⟩
            have n2 := src_ne hA5 nL2
            obtain ⟨z, hz, az⟩ := elt_of (l := pool5) (r := (i : Int)) (by omega) (by show (i : Int) < 5; omega)
            walk_at "rd"
            refine ⟨_, _, _, _, rfl, rfl, sq upd_same, (by rw [Int.zero_add]; exact az), ?_⟩
            have hL6 : (upd H5 L2 (.lst (pool5.map V.str))) L = some (.lst (ms.map V.str)) := same_new nL2 _ _ hL5
            have S6 : SameBut src H (upd H5 L2 (.lst (pool5.map V.str))) := S5.trans (Bx.Same.but (same_new nL2))
            have hA6 := src_upd hA5 n2 (u := .lst (pool5.map V.str))
            exact k z _ ⟨ok5 hz, S6, hA6, hL6⟩
          · exact k y H5 ⟨ky, S5, hA5, hL5⟩
        · exact k y H5 ⟨ky, S5, hA5, hL5⟩
      rintro z H6 ⟨kz, S6, hA6, hL6⟩
      walk_at "rd"
      refine ⟨.inl ⟨rfl, _, sq hL6⟩, ?_⟩
      walk_at "rd"
      refine ⟨L, _, _, rfl, rfl, hL6, szl (by rw [List.length_map]; omega), ?_⟩
      refine ⟨_, _, ms ++ [z], rfl, but_at nL S6, src_upd hA6 nLs, by rw [upd_same, List.map_append]; rfl, by rw [List.length_append, hml]; rfl, fun w hw => ?_⟩
      rcases List.mem_append.mp hw with hw | hw
      · exact hms w hw
      · rw [List.mem_singleton.mp hw]
        exact kz
    · rintro σ H2 ⟨o3, o4, ms, rfl, s2, hA2, hL2, hml, hms⟩
      have hm4 : ms.length ≤ 4 := by omega
      walk_at "rd"
      refine draw_of hA2 ⟨by decide, by decide⟩ fun d H3 _ _ s3 hA3 => ?_
      have hL3 := s3 _ _ nLs.symm hL2
      have S3 := s2.trans s3
      have out : ∀ (ns : List Str) H', SameBut src H H' → Src H' src → H' L = some (.lst (ns.map V.str)) → ns.length ≤ 4 → (∀ z ∈ ns, OkZ z) → Q (.ref L) H' := fun ns H' S' A' h' l' k' => q L ns H' S' A' nL h' l' k'
      walk_at "rd"
      refine ite2 (fun h0 => ?_) (fun h0 => ?_)
      · walk_at "rd"
        refine ⟨_, _, rfl, .inl (sq hL3), ?_⟩
        walk_at "rd"
        refine ite2 (fun h1 => ?_) (fun h1 => ?_)
        · have h2 : (0 : Int) < ((ms.map V.str).length : Nat) := of_decide_eq_true h1
          rw [List.length_map] at h2
          walk_at "rd"
          refine ⟨sz (by decide), fun L2 nL2 => ?_⟩
          have n2 := src_ne hA3 nL2
          have hL4 : (upd H3 L2 (.lst (bads.map V.str))) L = some (.lst (ms.map V.str)) := same_new nL2 _ _ hL3
          have hLb : (upd H3 L2 (.lst (bads.map V.str))) L2 = some (.lst (bads.map V.str)) := upd_same
          have S4 : SameBut src H (upd H3 L2 (.lst (bads.map V.str))) := S3.trans (Bx.Same.but (same_new nL2))
          have hA4 := src_upd hA3 n2 (u := .lst (bads.map V.str))
          walk_at "rd"
          refine draw_of hA4 ⟨by decide, by decide⟩ fun r H5 r0 r1 s5 hA5 => ?_
          obtain ⟨z, hz, az⟩ := elt_of (l := bads) r0 r1
          refine ⟨_, _, _, _, rfl, rfl, sq (s5 _ _ n2.symm hLb), az, ?_⟩
          have hL5 := s5 _ _ nLs.symm hL4
          walk_at "rd"
          refine ⟨_, _, rfl, .inl (sq hL5), ?_⟩
          refine draw_of hA5 (by rw [List.length_map]; constructor <;> omega) fun r' H6 r0' r1' s6 hA6 => ?_
          rw [List.length_map] at r1'
          have hL6 := s6 _ _ nLs.symm hL5
          obtain ⟨n, rfl⟩ := Int.eq_ofNat_of_zero_le r0'
          have nm : n < ms.length := by omega
          refine ⟨_, _, _, n, rfl, rfl, hL6, (by rw [List.length_map]; exact set_ok nm), ?_⟩
          walk_at "rd"
          refine out (ms.set n z) _ (but_at nL ((S4.trans s5).trans s6)) (src_upd hA6 nLs) (by rw [upd_same, List.map_set]) (by rw [List.length_set]; exact hm4) fun w hw => ?_
          rcases List.mem_or_eq_of_mem_set hw with hw | rfl
          · exact hms w hw
          · exact okB hz
        · walk_at "rd"
          exact out ms H3 S3 hA3 hL3 hm4 hms
      · walk_at "rd"
        exact out ms H3 S3 hA3 hL3 hm4 hms
end
end K02
namespace K02
local macro_rules | `(tactic| walk_at "rd") => `(tactic| repeat (first | refine ⟨rfl, ?_⟩ | refine ⟨_, rfl, ?_⟩ | refine ⟨_, _, rfl, rfl, ?_⟩ | refine ⟨⟨_, rfl⟩, ?_⟩))
open PySem PySem.Spec PyProof.Rows L2 Bx TL Dx Zx Ow Sup Er NdefX Px
open M02 (Dup)
section
variable {P : Program} {w : World} {K : PySem.W.Frag} {mg : Str → Option Value} {base : Heap}
/-! ### the law's own test of a name -/
def spLawIsName : Sp := fun vs H Q _ => ∃ z : Str, vs = [.str z] ∧ z.length ≤ 1000 ∧ Q (.bl (plainB z)) H
theorem ok_law_is_name {f : Addr} {fd : FuncData} (F : Fun K "_law_is_name" "_law_is_name" s__law_is_name f fd) (m_len : mg "len" = none) : FnOk P w K mg base CX0 1 f fd ["_law_text"] spLawIsName := by
  refine F.ok sc__law_is_name (fun vs H Q E h => ?_) (fun cdv A outer s H vs Q E hr h => ?_)
  · obtain ⟨p, rfl, _⟩ := h
    rfl
  · obtain ⟨p, rfl, hpl, q⟩ := h
    refine ⟨_, (pss_cons (ps_if (PW.pt (pw_or (pt_cmpR op_eq (pv 0) pe_str (nomark _)) (pw_or (pt_cmpR op_gt (pe_callB call_len_str (by rfl) m_len PySem.boot_len (pa_cons (pv 0) pa_nil)) pe_int (nomark _)) (pw_or1 (pt_cmpR op_notIn_sign (pe_ix ix_str (pv 0) pe_int (fun _ _ => rfl)) pe_str (by rfl))))))
      (pss_one (ps_ret pe_bl))
      pss_nil)
    (pss_cons (ps_for PassesOwn.never rfl (pi_str (pv 0)) (pg_name (i := 1) sc__law_is_name.nd rfl (Or.inl rfl))
      (pss_one (ps_if (pt_cmpR op_notIn_sign (pv 1) pe_str (by rfl))
      (pss_one (ps_ret pe_bl))
      pss_nil)))
    (pss_one (ps_ret pe_bl)))), ?_⟩
    have hp2 : p.length ≤ sizeLine := sz (by omega)
    have hlen : (tl p).length = p.length := (len_tl p).symm
    have fin : okName (tl p) = false → Q (.bl false) H := fun h => by
      unfold plainB at q
      rw [h] at q
      exact q
    walk_at "rd"
    refine ite2 (fun h0 => ?_) (fun h0 => ?_)
    · have e : p = Str.ofString "" := V.str.inj (of_decide_eq_true h0)
      walk_at "rd"
      exact fin (by rw [e]; rfl)
    · obtain ⟨c, l, e⟩ : ∃ c l, tl p = c :: l := by
        cases e : tl p with
        | nil => exact absurd (decide_eq_true (congrArg V.str (ext_tl (e.trans rfl)))) h0
        | cons c l => exact ⟨c, l, rfl⟩
      walk_at "rd"
      refine ⟨hp2, ?_⟩
      walk_at "rd"
      refine ite2 (fun h1 => ?_) (fun h1 => ?_)
      · have h2 : (8 : Int) < p.length := of_decide_eq_true h1
        walk_at "rd"
        refine fin ?_
        rw [e] at hlen ⊢
        show (decide ((c :: l).length ≤ 8) && _ && _) = false
        rw [decide_eq_false (by omega)]
        rfl
      · have h2 : ¬ (8 : Int) < p.length := fun c => h1 (decide_eq_true c)
        have hc : atI p.cps.toList 0 = some c := by
          show atI (tl p) ((0 : Nat) : Int) = some c
          exact atI_nat (by rw [e]; rfl)
        walk_at "rd"
        refine ⟨_, _, _, rfl, rfl, hp2, hc, ?_⟩
        walk_at "rd"
        refine ite2 (fun h3 => ?_) (fun h3 => ?_)
        · have h4 : c ∉ lett := fun z => by
            have h4 : (!decide (c ∈ (Str.ofString "abcdefghijklmnopqrstuvwxyz").cps.toList)) = true := h3
            rw [show (Str.ofString "abcdefghijklmnopqrstuvwxyz").cps.toList = lett from tl_lett, decide_eq_true z] at h4
            cases h4
          walk_at "rd"
          refine fin ?_
          rw [e]
          show (_ && decide (c ∈ lett) && _) = false
          rw [decide_eq_false h4, Bool.and_false]
          rfl
        · have h4 : c ∈ lett := Decidable.byContradiction fun z => h3 (by
            show (!decide (c ∈ (Str.ofString "abcdefghijklmnopqrstuvwxyz").cps.toList)) = true
            rw [show (Str.ofString "abcdefghijklmnopqrstuvwxyz").cps.toList = lett from tl_lett, decide_eq_false z]
            rfl)
          have hpn : p.cps.size = (tl p).length := (Array.length_toList).symm
          walk_at "rd"
          refine for_it walk_str (fun k σ H' => ∃ y2 : Option V, σ = [some (.str p), y2] ∧ H' = H ∧ ∀ j d, j < k → (tl p)[j]? = some d → d ∈ lett ++ digs) ⟨_, rfl, rfl, fun j d hj => absurd hj (Nat.not_lt_zero _)⟩ (fun _ _ _ _ _ => trivial) ?_ ?_
          · rintro k x σ H2 H3 hk ⟨y3, rfl, rfl, hd⟩ ⟨rfl, d, hdk, rfl⟩
            have hd2 : (tl p)[k]? = some d := by
              rw [← Array.getElem?_toList] at hdk
              exact hdk
            walk_at "rd"
            refine ite2 (fun h5 => ?_) (fun h5 => ?_)
            · have h6 : d ∉ lett ++ digs := fun z => by
                have h4 : (!decide (d ∈ (Str.ofString "abcdefghijklmnopqrstuvwxyz0123456789").cps.toList)) = true := h5
                rw [show (Str.ofString "abcdefghijklmnopqrstuvwxyz0123456789").cps.toList = lett ++ digs from tl_ld, decide_eq_true z] at h4
                cases h4
              walk_at "rd"
              refine fin ?_
              have hm := List.mem_of_getElem? hd2
              rw [e] at hm ⊢
              show (_ && List.all (c :: l) _) = false
              rw [Bool.and_eq_false_iff]
              refine .inr (Bool.eq_false_iff.mpr fun w => h6 (of_decide_eq_true (List.all_eq_true.mp w d hm)))
            · have h6 : d ∈ lett ++ digs := Decidable.byContradiction fun z => h5 (by
                show (!decide (d ∈ (Str.ofString "abcdefghijklmnopqrstuvwxyz0123456789").cps.toList)) = true
                rw [show (Str.ofString "abcdefghijklmnopqrstuvwxyz0123456789").cps.toList = lett ++ digs from tl_ld, decide_eq_false z]
                rfl)
              refine ⟨_, rfl, rfl, fun j d2 hj hd3 => ?_⟩
              rcases Nat.lt_succ_iff_lt_or_eq.mp hj with h | h
              · exact hd j d2 h hd3
              · rw [h, hd2] at hd3
                cases hd3
                exact h6
          · rintro σ H2 ⟨y3, rfl, rfl, hd⟩
            walk_at "rd"
            have e2 : plainB p = true := by
              unfold plainB
              rw [e]
              show (decide ((c :: l).length ≤ 8) && decide (c ∈ lett) && (c :: l).all fun d => decide (d ∈ lett ++ digs)) = true
              rw [e] at hlen
              rw [decide_eq_true (show (c :: l).length ≤ 8 by omega), decide_eq_true h4, Bool.true_and, Bool.true_and]
              refine List.all_eq_true.mpr fun d hd4 => ?_
              obtain ⟨j2, hj2⟩ := List.mem_iff_getElem?.mp (show d ∈ tl p by rw [e]; exact hd4)
              exact decide_eq_true (hd j2 d (by rw [hpn]; exact (List.getElem?_eq_some_iff.mp hj2).1) hj2)
            rw [e2] at q
            exact q
def spLawIsFull : Sp := fun vs H Q _ => ∃ z : Str, vs = [.str z] ∧ OkZ z ∧ ∀ H', Same H H' → Q (.bl (fullB z)) H'
theorem full_false {z p : Str} (hp : p ∈ Txt.split z ".") (h : okName (tl p) = false) : fullB z = false := by
  unfold fullB
  rw [Bool.eq_false_iff]
  intro ha
  rw [List.all_eq_true.mp ha p hp] at h
  cases h
theorem ok_law_is_full {f : Addr} {fd : FuncData} (F : Fun K "_law_is_full" "_law_is_full" s__law_is_full f fd) (C__law_is_name : Cal P w K mg base "_law_is_name" 1 ["_law_text"] spLawIsName) : FnOk P w K mg base CX0 2 f fd ["_law_text"] spLawIsFull := by
  refine F.ok sc__law_is_full (fun vs H Q E h => ?_) (fun cdv A outer s H vs Q E hr h => ?_)
  · obtain ⟨z, rfl, _⟩ := h
    rfl
  · obtain ⟨z, rfl, kz, q⟩ := h
    refine ⟨_, (pss_cons (ps_for PassesOwn.never rfl (pi_list (pe_split (pv 0) pe_str)) (pg_name (i := 1) sc__law_is_full.nd rfl (Or.inl rfl))
      (pss_one (ps_if (pt_not (pt_val (pe_cal C__law_is_name (hr.mono (by decide)) (pa_cons (pv 1) pa_nil))))
      (pss_one (ps_ret pe_bl))
      pss_nil)))
    (pss_one (ps_ret pe_bl))), ?_⟩
    walk_at "rd"
    refine ⟨sz (by have := kz.l; omega), fun L nL => ?_⟩
    refine ⟨L, rfl, ⟨_, sq upd_same⟩, for_list (K := K) (a := L) (xs := (Txt.split z ".").map V.str) (fun i σ H' => ∃ (y1 : Option V), σ = [some (.str z), y1] ∧ H' = upd H L (.lst ((Txt.split z ".").map V.str)) ∧ ∀ j p, j < i → (Txt.split z ".")[j]? = some p → okName (tl p) = true)
      ⟨none, rfl, rfl, fun j p hj => absurd hj (Nat.not_lt_zero _)⟩ (fun i σ H' _ ⟨_, _, e, _⟩ => e ▸ sq upd_same) ?_ ?_⟩
    · rintro i x σ H1 hx ⟨y1, rfl, rfl, hall⟩
      obtain ⟨p, hpi, rfl⟩ := at_map hx
      have hpm := List.mem_of_getElem? hpi
      walk_at "rd"
      refine ⟨by have := kz.p p hpm; omega, ?_⟩
      walk_at "rd"
      refine ite2 (fun h0 => ?_) (fun h0 => ?_)
      · walk_at "rd"
        have h1 : okName (tl p) = false := by
          have : (!plainB p) = true := h0
          unfold plainB at this
          cases e : okName (tl p) with
          | false => rfl
          | true =>
            rw [e] at this
            cases this
        have e := full_false hpm h1
        rw [e] at q
        exact q _ (same_new nL)
      · refine ⟨_, rfl, rfl, fun j p2 hj hp3 => ?_⟩
        rcases Nat.lt_succ_iff_lt_or_eq.mp hj with h | h
        · exact hall j p2 h hp3
        · rw [h, hpi] at hp3
          cases hp3
          cases e : okName (tl p) with
          | true => rfl
          | false => exact absurd (show (!plainB p) = true by unfold plainB; rw [e]; rfl) h0
    · rintro σ H1 ⟨y1, rfl, rfl, hall⟩
      walk_at "rd"
      have e : fullB z = true := List.all_eq_true.mpr fun p hpm => by
        obtain ⟨j, hj⟩ := List.mem_iff_getElem?.mp hpm
        exact hall j p (by rw [List.length_map]; exact (List.getElem?_eq_some_iff.mp hj).1) hj
      rw [e] at q
      exact q _ (same_new nL)
/-! ### what the law asks of the error -/
def kindOf (nm : Str) (sh hd : List Str) (k z : Str) : Prop :=
  (badN nm sh hd = some z ∧ k = Str.ofString "name") ∨ (badN nm sh hd = none ∧ Dup (sh ++ hd) z ∧ k = Str.ofString "part") ∨ (badN nm sh hd = none ∧ (sh ++ hd).Nodup ∧ k = Str.ofString "none" ∧ z = Str.ofString "")
@[irreducible] def spExp (K : PySem.W.Frag) : Sp := fun vs H Q _ => ∃ (nm : Str) (a b : Addr) (sh hd : List Str), vs = [.str nm, .ref a, .ref b] ∧ H a = some (.lst (sh.map V.str)) ∧ H b = some (.lst (hd.map V.str)) ∧ sh.length ≤ 20 ∧ hd.length ≤ 20 ∧ OkZ nm ∧ (∀ z ∈ sh, OkZ z) ∧ (∀ z ∈ hd, OkZ z) ∧
  ∀ r k z H', Same H H' → H r = none → H' r = some (.tup [.str k, .str z]) → kindOf nm sh hd k z → Q (.ref r) H'
theorem ok_expected {f : Addr} {fd : FuncData} (F : Fun K "_law_expected_error" "_law_expected_error" s__law_expected_error f fd) (m_len : mg "len" = none) (m_range : mg "range" = none) (m_sorted : mg "sorted" = none)
    (C__law_is_name : Cal P w K mg base "_law_is_name" 1 ["_law_text"] spLawIsName) (C__law_is_full : Cal P w K mg base "_law_is_full" 2 ["_law_text"] spLawIsFull) : FnOk P w K mg base CX0 3 f fd ["_law_name", "_law_shown", "_law_hidden"] (spExp K) := by
  refine F.ok sc__law_expected_error (fun vs H Q E h => ?_) (fun cdv A outer s H vs Q E hr h => ?_)
  · unfold spExp at h
    obtain ⟨nm, a, b, sh, hd, rfl, _⟩ := h
    rfl
  · unfold spExp at h
    obtain ⟨nm, a, b, sh, hd, rfl, ha, hb, hl1, hl2, kn, ks, kh, q⟩ := h
    refine ⟨_, (pss_cons (ps_for PassesOwn.never rfl (pi_list (pe_op op_cat (pe_lst (pa_cons (pv 0) pa_nil)) (pv 1))) (pg_name (i := 3) sc__law_expected_error.nd rfl (Or.inl rfl))
      (pss_one (ps_if (pt_not (pt_val (pe_cal C__law_is_name (hr.mono (by decide)) (pa_cons (pv 3) pa_nil))))
      (pss_one (ps_ret (pe_tup (pa_cons pe_str (pa_cons (pv 3) pa_nil)))))
      pss_nil)))
    (pss_cons (ps_for PassesOwn.never rfl (pi_list (pv 2)) (pg_name (i := 3) sc__law_expected_error.nd rfl (Or.inl rfl))
      (pss_one (ps_if (pt_not (pt_val (pe_cal C__law_is_full (hr.mono (by decide)) (pa_cons (pv 3) pa_nil))))
      (pss_one (ps_ret (pe_tup (pa_cons pe_str (pa_cons (pv 3) pa_nil)))))
      pss_nil)))
    (pss_cons (ps_set (i := 4) sc__law_expected_error.nd rfl (Or.inl rfl) (pe_callB (id := "sorted") cr_sortedS (by rfl) m_sorted (by decide +kernel) (pa_cons (pe_op op_cat (pv 1) (pv 2)) pa_nil)))
    (pss_cons (ps_for PassesOwn.never rfl (pi_range2 (by rfl) m_range (pa_cons pe_int (pa_cons (pe_callB call_len_seq (by rfl) m_len PySem.boot_len (pa_cons (pv 4) pa_nil)) pa_nil))) (pg_name (i := 5) sc__law_expected_error.nd rfl (Or.inl rfl))
      (pss_one (ps_if (pt_cmpR op_eq (pe_ix ix_list (pv 4) (pe_op op_sub (pv 5) pe_int) (fun _ _ => rfl)) (pe_ix ix_list (pv 4) (pv 5) (fun _ _ => rfl)) (nomark _))
      (pss_one (ps_ret (pe_tup (pa_cons pe_str (pa_cons (pe_ix ix_list (pv 4) (pv 5) (fun _ _ => rfl)) pa_nil)))))
      pss_nil)))
    (pss_one (ps_ret (pe_tup (pa_cons pe_str (pa_cons pe_str pa_nil))))))))), ?_⟩
    have npb : ∀ {z : Str}, (!plainB z) = true → plainB z = false := fun {z} h => by
      cases e : plainB z with
      | false => rfl
      | true =>
        rw [e] at h
        cases h
    walk_at "rd"
    refine ⟨sz (by show 1 ≤ 100000; decide), fun L0 n0 => ?_⟩
    have s0 := same_new n0 (o := .lst [V.str nm])
    walk_at "rd"
    refine ⟨L0, a, _, _, rfl, rfl, upd_same, s0 _ _ ha, (by rw [List.length_map]; exact sz (by show 1 + sh.length ≤ 100000; omega)), fun L1 n1 => ?_⟩
    have s1 := Same.trans s0 (same_new n1 (o := .lst ([V.str nm] ++ sh.map V.str)))
    have hL1 : (upd (upd H L0 (.lst [V.str nm])) L1 (.lst ([V.str nm] ++ sh.map V.str))) L1 = some (.lst ((nm :: sh).map V.str)) := upd_same
    generalize upd (upd H L0 (.lst [V.str nm])) L1 (.lst ([V.str nm] ++ sh.map V.str)) = H1 at s1 hL1 ⊢
    refine ⟨L1, rfl, ⟨_, sq hL1⟩, for_list (K := K) (a := L1) (xs := (nm :: sh).map V.str) (fun i σ H' => ∃ y3 y4 y5 : Option V, σ = [some (.str nm), some (.ref a), some (.ref b), y3, y4, y5] ∧ H' = H1 ∧ ∀ j y, j < i → (nm :: sh)[j]? = some y → (!plainB y) = false)
      ⟨none, none, none, rfl, rfl, fun j y hj => absurd hj (Nat.not_lt_zero _)⟩ (fun i σ H' _ ⟨_, _, _, _, e, _⟩ => e ▸ sq hL1) ?_ ?_⟩
    · rintro i v σ H2 hx ⟨y3, y4, y5, rfl, rfl, no⟩
      obtain ⟨z, hz, rfl⟩ := at_map (l := nm :: sh) hx
      have kz : OkZ z := by
        rcases List.mem_cons.mp (List.mem_of_getElem? hz) with rfl | h
        · exact kn
        · exact ks z h
      walk_at "rd"
      refine ⟨by have := kz.l; omega, ?_⟩
      walk_at "rd"
      refine ite2 (fun h0 => ?_) (fun h0 => ?_)
      · walk_at "rd"
        have hb2 : badN nm sh hd = some z := by
          unfold badN
          rw [find_first hz h0 no]
          rfl
        exact ⟨sz (by show 2 ≤ 100000; decide), fun r nr => q r _ z _ (Same.trans s1 (same_new nr)) (s1.free nr) upd_same (.inl ⟨hb2, rfl⟩)⟩
      · refine ⟨_, _, _, rfl, rfl, fun j y hj hy => ?_⟩
        rcases Nat.lt_succ_iff_lt_or_eq.mp hj with h | h
        · exact no j y h hy
        · rw [h, hz] at hy
          cases hy
          exact Bool.eq_false_iff.mpr h0
    · rintro σ H2 ⟨y3, y4, y5, rfl, rfl, no⟩
      have none1 : (nm :: sh).find? (fun z => !plainB z) = none := find_no fun j y hy => no j y (by rw [List.length_map]; exact (List.getElem?_eq_some_iff.mp hy).1) hy
      walk_at "rd"
      have hb1 := s1 _ _ hb
      refine ⟨⟨_, sq hb1⟩, for_list (K := K) (a := b) (xs := hd.map V.str) (fun i σ H' => ∃ y3 y4 y5 : Option V, σ = [some (.str nm), some (.ref a), some (.ref b), y3, y4, y5] ∧ Same H2 H' ∧ ∀ j y, j < i → hd[j]? = some y → (!fullB y) = false)
        ⟨_, _, _, rfl, Same.refl _, fun j y hj => absurd hj (Nat.not_lt_zero _)⟩ (fun i σ H' _ ⟨_, _, _, _, s, _⟩ => sq (s _ _ hb1)) ?_ ?_⟩
      · rintro i v σ H3 hx ⟨y3, y4, y5, rfl, s3, no2⟩
        obtain ⟨z, hz, rfl⟩ := at_map hx
        have kz := kh z (List.mem_of_getElem? hz)
        walk_at "rd"
        refine ⟨kz, fun H4 s4 => ?_⟩
        walk_at "rd"
        refine ite2 (fun h0 => ?_) (fun h0 => ?_)
        · walk_at "rd"
          have hb2 : badN nm sh hd = some z := by
            unfold badN
            rw [none1, find_first hz h0 no2]
            rfl
          have s14 := Same.trans s1 (Same.trans s3 s4)
          exact ⟨sz (by show 2 ≤ 100000; decide), fun r nr => q r _ z _ (Same.trans s14 (same_new nr)) (s14.free nr) upd_same (.inl ⟨hb2, rfl⟩)⟩
        · refine ⟨_, _, _, rfl, Same.trans s3 s4, fun j y hj hy => ?_⟩
          rcases Nat.lt_succ_iff_lt_or_eq.mp hj with h | h
          · exact no2 j y h hy
          · rw [h, hz] at hy
            cases hy
            exact Bool.eq_false_iff.mpr h0
      · rintro σ H3 ⟨y3, y4, y5, rfl, s3, no2⟩
        have none2 : badN nm sh hd = none := by
          unfold badN
          rw [none1, find_no fun j y hy => no2 j y (by rw [List.length_map]; exact (List.getElem?_eq_some_iff.mp hy).1) hy]
          rfl
        have s13 := Same.trans s1 s3
        walk_at "rd"
        refine ⟨a, b, _, _, rfl, rfl, s13 _ _ ha, s13 _ _ hb, (by rw [List.length_map, List.length_map]; exact sz (by omega)), fun L4 n4 => ?_⟩
        have s4 := Same.trans s13 (same_new n4 (o := .lst (sh.map V.str ++ hd.map V.str)))
        refine ⟨L4, sh ++ hd, rfl, sq (by rw [upd_same, List.map_append]), (by rw [List.length_append]; omega), fun ys L5 pm st n5 => ?_⟩
        have s5 := Same.trans s4 (same_new n5 (o := .lst (ys.map V.str)))
        have hL5 : (upd (upd H3 L4 (.lst (sh.map V.str ++ hd.map V.str))) L5 (.lst (ys.map V.str))) L5 = some (.lst (ys.map V.str)) := upd_same
        generalize upd (upd H3 L4 (.lst (sh.map V.str ++ hd.map V.str))) L5 (.lst (ys.map V.str)) = H5 at s5 hL5 ⊢
        have yl : ys.length ≤ 40 := by
          rw [pm.length_eq, List.length_append]
          omega
        walk_at "rd"
        refine ⟨_, _, rfl, .inl (sq hL5), ?_⟩
        rw [List.length_map]
        walk_at "rd"
        refine ⟨1, _, rfl, ⟨by decide, by decide, by omega, by omega⟩, for_it walk_range (fun i σ H' => ∃ y3 y5 : Option V, σ = [some (.str nm), some (.ref a), some (.ref b), y3, some (.ref L5), y5] ∧ H' = H5 ∧ ∀ j y, j < i → ys[j]? = some y → ys[j + 1]? ≠ some y)
          ⟨_, _, rfl, rfl, fun j y hj => absurd hj (Nat.not_lt_zero _)⟩ (fun _ _ _ _ _ => trivial) ?_ ?_⟩
        · rintro i v σ H6 H6' hi ⟨y3, y5, rfl, rfl, no3⟩ ⟨rfl, rfl⟩
          have hi2 : i + 1 < ys.length := by omega
          obtain ⟨x, hx⟩ : ∃ x, ys[i]? = some x := ⟨_, List.getElem?_eq_getElem (by omega)⟩
          obtain ⟨z, hz⟩ : ∃ z, ys[i + 1]? = some z := ⟨_, List.getElem?_eq_getElem hi2⟩
          have ax : atI (ys.map V.str) (1 + (i : Nat) - 1 : Int) = some (V.str x) := by
            rw [show (1 : Int) + (i : Nat) - 1 = (i : Int) by omega]
            exact atI_nat (by rw [List.getElem?_map, hx]; rfl)
          have az : atI (ys.map V.str) (1 + (i : Nat) : Int) = some (V.str z) := by
            rw [show (1 : Int) + (i : Nat) = ((i + 1 : Nat) : Int) by omega]
            exact atI_nat (by rw [List.getElem?_map, hz]; rfl)
          walk_at "rd"
          refine ⟨_, _, _, _, rfl, rfl, sq hL5, ax, ?_⟩
          walk_at "rd"
          refine ⟨_, _, _, _, rfl, rfl, sq hL5, az, ?_⟩
          walk_at "rd"
          refine ite2 (fun h0 => ?_) (fun h0 => ?_)
          · have e : x = z := V.str.inj (of_decide_eq_true h0)
            walk_at "rd"
            refine ⟨_, _, _, _, rfl, rfl, sq hL5, az, ?_⟩
            exact ⟨sz (by show 2 ≤ 100000; decide), fun r nr => q r _ z _ (Same.trans s5 (same_new nr)) (s5.free nr) upd_same (.inr (.inl ⟨none2, M02.dup_perm pm (M02.dup_nei st (e ▸ hx) hz no3), rfl⟩))⟩
          · refine ⟨_, _, rfl, rfl, fun j y hj hy => ?_⟩
            rcases Nat.lt_succ_iff_lt_or_eq.mp hj with h | h
            · exact no3 j y h hy
            · rw [h, hx] at hy
              cases hy
              rw [h, hz]
              exact fun e => h0 (decide_eq_true (congrArg V.str (Option.some.inj e).symm))
        · rintro σ H6 ⟨y3, y5, rfl, rfl, no3⟩
          walk_at "rd"
          refine ⟨sz (by show 2 ≤ 100000; decide), fun r nr => q r _ _ _ (Same.trans s5 (same_new nr)) (s5.free nr) upd_same (.inr (.inr ⟨none2, ?_, rfl, rfl⟩))⟩
          refine pm.nodup_iff.mp (M02.nodup_nei st fun j y hy hy2 => no3 j y ?_ hy hy2)
          have := (List.getElem?_eq_some_iff.mp hy2).1
          omega
end
end K02
namespace K02
local macro_rules | `(tactic| walk_at "rd") => `(tactic| repeat (first | refine ⟨rfl, ?_⟩ | refine ⟨_, rfl, ?_⟩ | refine ⟨_, _, rfl, rfl, ?_⟩ | refine ⟨⟨_, rfl⟩, ?_⟩))
open PySem PySem.Spec PyProof.Rows L2 Bx TL Dx Zx Ow Sup Er NdefX Px
open M02 (Dup)
section
variable {P : Program} {w : World} {K : PySem.W.Frag} {mg : Str → Option Value} {base : Heap}
theorem hd_cons {X : Cx} {n x : Str} {C : Value} {t : Addr → Value → Option Addr → TS} {b0 : Stmt} {bs : List Stmt} {p1 p2 : Pos} {hs : List ExceptHandler} {l : List Cl} (nm : Names X x C)
    (su : ∀ (a : Addr) (o : Obj) (cls : Value) (d : Option Addr) (pn : List (Addr × Obj)), Zc cls d o → (∃ vs, o.data = .fields vs) → PSs (X.suite a ((a, o) :: pn)) (b0 :: bs) (t a cls d)) (r : HdA X n hs l) :
    HdA X n (.ExceptHandler (some (.Name x p1)) (some n) (b0 :: bs) p2 :: hs) ((C, t) :: l) := HdA.cons (c := (C, t)) nm su r
/-- what the classes of the errors are to one another -/
structure EF (K : PySem.W.Frag) (mg : Str → Option Value) (CN CP SE : Addr) : Prop where
  eN : ExcC K CN
  cN : (PySem.W.clsIn K CN).isSome = true
  eP : ExcC K CP
  cP : (PySem.W.clsIn K CP).isSome = true
  nP : PySem.W.kitOne K (.ref CN) (.ref CP) = some false
  nS : PySem.W.kitOne K (.ref CN) (.ref SE) = some true
  pV : PySem.W.kitOne K (.ref CP) (.type "ValueError") = some true
  pS : PySem.W.kitOne K (.ref CP) (.ref SE) = some true
  pN : PySem.W.exmOne K (.ref CP) (.ref CN) = some false
  gS : mg "ShadowError" = some (.ref SE)
@[irreducible] def spRaised (K : PySem.W.Frag) : Sp := fun vs H Q _ => ∃ (nm : Str) (a b : Addr) (sh hd : List Str), vs = [.str nm, .ref a, .ref b] ∧ NmS K H a sh ∧ NmS K H b hd ∧ sh.length ≤ 20 ∧ hd.length ≤ 20 ∧ OkZ nm ∧ (∀ z ∈ sh, OkZ z) ∧ (∀ z ∈ hd, OkZ z) ∧
  ∀ r k z H', Same H H' → H r = none → H' r = some (.tup [.str k, .str z]) → kindOf nm sh hd k z → Q (.ref r) H'
theorem ok_raised {C CN CP SE : Addr} (ef : EF K mg CN CP SE) {f : Addr} {fd : FuncData} (F : Fun K "_law_raised" "_law_raised" s__law_raised f fd) (m_isinstance : mg "isinstance" = none) (m_ValueError : mg "ValueError" = none) (K_P : MkP P w K mg base C CN CP)
    (E_InvalidName : Err P w K mg base "InvalidName" CN "name" "name" okS 1) (E_InvalidPart : Err P w K mg base "InvalidPart" CP "name" "name" okS 1) : FnOk P w K mg base CX0 7 f fd ["_law_name", "_law_shown", "_law_hidden"] (spRaised K) := by
  have g_ShadowError := ef.gS
  have g_InvalidPart := E_InvalidPart.g
  refine F.ok sc__law_raised (fun vs H Q E h => ?_) (fun cdv A outer s H vs Q E hr h => ?_)
  · unfold spRaised at h
    obtain ⟨nm, a, b, sh, hd, rfl, _⟩ := h
    rfl
  · unfold spRaised at h
    obtain ⟨nm, a, b, sh, hd, rfl, ha, hb, hl1, hl2, kn, ks, kh, q⟩ := h
    refine ⟨_, (pss_cons (ps_tryA (i := 3) rfl rfl sc__law_raised.nd rfl rfl takes0 (fun W pn xe tk po =>
      (pss_one (ps_expr (pe_makX K_P tk (hr.mono (by decide)) (pa_cons pe_str (pa_cons (pv 0) (pa_cons (pv 1) (pa_cons (pv 2) (pa_cons (pe_lst pa_nil) pa_nil))))))))) (hd_cons (C := .ref CN) ⟨rfl, by decide, .inl E_InvalidName.g⟩ (fun a oe cls d pn hz hf =>
      (pss_cons (ps_if (PW.pt (pw_or (pt_val (pe_callB (id := "isinstance") (call_isD hz hf) (by rfl) m_isinstance (by decide +kernel) (pa_cons (pv 3) (pa_cons (pe_glob (v := .ref CP) rfl g_InvalidPart rfl) pa_nil)))) (pw_or1 (pt_not (pt_val (pe_callB (id := "isinstance") (call_isD hz hf) (by rfl) m_isinstance (by decide +kernel) (pa_cons (pv 3) (pa_cons (pe_glob (v := .ref SE) rfl g_ShadowError rfl) pa_nil))))))))
      (pss_one (ps_ret (pe_tup (pa_cons pe_str (pa_cons pe_str pa_nil)))))
      pss_nil)
    (pss_one (ps_ret (pe_tup (pa_cons pe_str (pa_cons (pe_xf E_InvalidName.xf E_InvalidName.no hz hf (pv 3)) pa_nil))))))) (hd_cons (C := .ref CP) ⟨rfl, by decide, .inl E_InvalidPart.g⟩ (fun a oe cls d pn hz hf =>
      (pss_cons (ps_if (PW.pt (pw_or (pt_not (pt_val (pe_callB (id := "isinstance") (call_isD hz hf) (by rfl) m_isinstance (by decide +kernel) (pa_cons (pv 3) (pa_cons (pe_bltn (v := .ty "ValueError") (by rfl) m_ValueError (by decide +kernel) rfl) pa_nil))))) (pw_or1 (pt_not (pt_val (pe_callB (id := "isinstance") (call_isD hz hf) (by rfl) m_isinstance (by decide +kernel) (pa_cons (pv 3) (pa_cons (pe_glob (v := .ref SE) rfl g_ShadowError rfl) pa_nil))))))))
      (pss_one (ps_ret (pe_tup (pa_cons pe_str (pa_cons pe_str pa_nil)))))
      pss_nil)
    (pss_one (ps_ret (pe_tup (pa_cons pe_str (pa_cons (pe_xf E_InvalidPart.xf E_InvalidPart.no hz hf (pv 3)) pa_nil))))))) .nil)))
    (pss_one (ps_ret (pe_tup (pa_cons pe_str (pa_cons pe_str pa_nil)))))), ?_⟩
    walk_at "rd"
    refine ⟨sz (by show 0 ≤ 100000; decide), fun L nL => ?_⟩
    have sL := same_new nL (o := .lst [])
    have hL : (upd H L (.lst [])) L = some (.lst []) := upd_same
    generalize upd H L (.lst []) = H1 at sL hL ⊢
    walk_at "rd"
    intro x dx nx ndx _
    refine mk_gen nx ndx (ha.same sL) (hb.same sL) (.inl (sq hL)) .nil hl1 hl2 kn ks kh rfl (by show 0 ≤ 100; decide) (fun hbad nd H' s' t' sH _ _ _ _ hP' => ⟨rfl, ?_⟩) (fun z hz d H' sH hd => ?_) (fun hbad z hz d H' sH hd => ?_)
    · have s1 := Same.trans sL sH
      walk_at "rd"
      exact ⟨sz (by show 2 ≤ 100000; decide), fun r nr => q r _ _ _ (Same.trans s1 (same_new nr)) (s1.free nr) upd_same (.inr (.inr ⟨hbad, nd, rfl, rfl⟩))⟩
    · have s1 := Same.trans sL sH
      refine ⟨true, E_InvalidName.te, fun _ x nx => ?_, fun h => nomatch h⟩
      walk_at "rd"
      refine ⟨CN, d, _, _, false, _, rfl, rfl, rfl, ef.cN, ef.eN, hd, (fun u r => r), ef.nP, ?_⟩
      walk_at "rd"
      refine ⟨CN, d, _, _, true, _, rfl, rfl, rfl, ef.cN, ef.eN, hd, (fun u r => r), ef.nS, ?_⟩
      walk_at "rd"
      refine ⟨d, _, _, rfl, hd, rfl, sz (by show 2 ≤ 100000; decide), fun r nr => ?_⟩
      exact q r _ z _ (Same.trans s1 (same_new nr)) (s1.free nr) upd_same (.inl ⟨hz, rfl⟩)
    · have s1 := Same.trans sL sH
      refine ⟨false, ef.pN, (fun h => nomatch h), fun _ => ⟨true, E_InvalidPart.te, fun _ x nx => ?_, fun h => nomatch h⟩⟩
      walk_at "rd"
      refine ⟨CP, d, _, _, true, _, rfl, rfl, rfl, ef.cP, ef.eP, hd, (fun u r => r), ef.pV, ?_⟩
      walk_at "rd"
      refine ⟨CP, d, _, _, true, _, rfl, rfl, rfl, ef.cP, ef.eP, hd, (fun u r => r), ef.pS, ?_⟩
      walk_at "rd"
      refine ⟨d, _, _, rfl, hd, rfl, sz (by show 2 ≤ 100000; decide), fun r nr => ?_⟩
      exact q r _ z _ (Same.trans s1 (same_new nr)) (s1.free nr) upd_same (.inr (.inl ⟨hbad, hz, rfl⟩))
end
end K02
namespace K02
local macro_rules | `(tactic| walk_at "rd") => `(tactic| repeat (first | refine ⟨rfl, ?_⟩ | refine ⟨_, rfl, ?_⟩ | refine ⟨_, _, rfl, rfl, ?_⟩ | refine ⟨⟨_, rfl⟩, ?_⟩))
open PySem PySem.Spec PyProof.Rows L2 Bx TL Dx Zx Ow Sup Er NdefX Px
open M02 (Dup)
section
variable {P : Program} {w : World} {K : PySem.W.Frag} {mg : Str → Option Value} {base : Heap}
theorem pe_binX {X : Cx} {K0 : PySem.W.Frag} {C : Addr} {k : Nat} {ps : List Str} {sp : Sp} {W : WX} {a b : Expr} {ta tb : TE} {pos : Pos} {op : Operator} {T : String} (hk : X.K = K0) (c : OwM X.prog X.w X.K X.mg X.base (L2.CX X.prog X.w) C (PySem.dunder op.info.2) k ps sp) (B : BinF X.K C op T) (hr : Room k X.A) (tk : Takes X W) (ha : PE X a ta) (hb : PE X b tb) :
    PE X (.BinOp a op b pos) (tBinO K0 C T sp W ta tb) := by
  subst hk
  exact pe_binO c B hr (fun σ => passAt tk σ) ha hb
@[irreducible] def spHides (K : PySem.W.Frag) (C : Addr) : Sp := fun vs H Q _ => ∃ (p : Addr) (z wd nm : Str) (sh hd : List Str) (ds : List PyData), vs = [.ref p, .str z] ∧ PartAt K C H p wd nm sh hd ds ∧ Good nm sh hd ds ∧ OkZ z ∧
  (z ∉ sh → ∀ r H', Same H H' → H' r = some (.tup [.str (Str.ofString "part"), .str z]) → Q (.ref r) H') ∧
  (z ∈ sh → ∀ x H' s' t', Same H H' → Asc s' → Asc t' → (∀ y, y ∈ s' ↔ y ∈ sh.filter fun y => decide (y ≠ z)) → (∀ y, y ∈ t' ↔ y ∈ hd ++ [z]) → PartAt K C H' x wd nm s' t' ds → Q (.ref x) H')
theorem ok_hides {C CP : Addr} {f : Addr} {fd : FuncData} (F : Fun K "_law_hides" "_law_hides" s__law_hides f fd) (E_InvalidPart : Err P w K mg base "InvalidPart" CP "name" "name" okS 1)
    (O___sub__ : OwM P w K mg base (L2.CX P w) C (PySem.dunder "sub") 7 ["self", "other"] (spSub K C CP)) (B___sub__ : BinF K C .Sub "str") : FnOk P w K mg base CX0 8 f fd ["_law_part", "_law_name"] (spHides K C) := by
  refine F.ok sc__law_hides (fun vs H Q E h => ?_) (fun cdv A outer s H vs Q E hr h => ?_)
  · unfold spHides at h
    obtain ⟨p, z, wd, nm, sh, hd, ds, rfl, _⟩ := h
    rfl
  · unfold spHides at h
    obtain ⟨p, z, wd, nm, sh, hd, ds, rfl, hP, g, kz, qe, q⟩ := h
    obtain ⟨dx, a, b, c, zs, h1, h2, h3, h4, h5⟩ := id hP
    refine ⟨_, (pss_one (ps_try_as (i := 2) rfl rfl sc__law_hides.nd rfl rfl ⟨rfl, by decide, .inl E_InvalidPart.g⟩ takes0 (fun W pn xe tk po =>
      (pss_one (ps_ret (pe_binX (K0 := K) (op := .Sub) rfl O___sub__ B___sub__ (hr.mono (by decide)) tk (pv 0) (pv 1)))))
      (fun a oe cls d pn hz hf =>
      (pss_one (ps_ret (pe_tup (pa_cons pe_str (pa_cons (pe_xf E_InvalidPart.xf E_InvalidPart.no hz hf (pv 2)) pa_nil)))))))), ?_⟩
    walk_at "rd"
    refine ⟨p, dx, _, rfl, h1, .str _, ?_⟩
    show spSub K C CP _ _ _ _
    unfold spSub
    refine ⟨p, z, wd, nm, sh, hd, ds, rfl, hP, g, kz, fun hz d H' s' hd' => ?_, q⟩
    refine ⟨true, E_InvalidPart.te, fun _ x nx => ?_, fun h => nomatch h⟩
    walk_at "rd"
    refine ⟨d, _, _, rfl, hd', rfl, sz (by show 2 ≤ 100000; decide), fun r nr => ?_⟩
    exact qe hz r _ (Same.trans s' (same_new nr)) upd_same
@[irreducible] def spReveals (K : PySem.W.Frag) (C : Addr) : Sp := fun vs H Q _ => ∃ (p : Addr) (z wd nm : Str) (sh hd : List Str) (ds : List PyData), vs = [.ref p, .str z] ∧ PartAt K C H p wd nm sh hd ds ∧ Good nm sh hd ds ∧ OkZ z ∧
  (¬ (z ∈ hd ∧ plainB z = true) → ∀ r H', Same H H' → H' r = some (.tup [.str (Str.ofString "part"), .str z]) → Q (.ref r) H') ∧
  (z ∈ hd → plainB z = true → ∀ x H' s' t', Same H H' → Asc s' → Asc t' → (∀ y, y ∈ s' ↔ y ∈ sh ++ [z]) → (∀ y, y ∈ t' ↔ y ∈ hd.filter fun y => decide (y ≠ z)) → PartAt K C H' x wd nm s' t' ds → Q (.ref x) H')
theorem ok_reveals {C CP : Addr} {f : Addr} {fd : FuncData} (F : Fun K "_law_reveals" "_law_reveals" s__law_reveals f fd) (E_InvalidPart : Err P w K mg base "InvalidPart" CP "name" "name" okS 1)
    (M_reveal : MthX P w K mg base C "reveal" 7 ["self", "name"] (spRev K C CP)) : FnOk P w K mg base CX0 8 f fd ["_law_part", "_law_name"] (spReveals K C) := by
  refine F.ok sc__law_reveals (fun vs H Q E h => ?_) (fun cdv A outer s H vs Q E hr h => ?_)
  · unfold spReveals at h
    obtain ⟨p, z, wd, nm, sh, hd, ds, rfl, _⟩ := h
    rfl
  · unfold spReveals at h
    obtain ⟨p, z, wd, nm, sh, hd, ds, rfl, hP, g, kz, qe, q⟩ := h
    obtain ⟨dx, a, b, c, zs, h1, h2, h3, h4, h5⟩ := id hP
    refine ⟨_, (pss_one (ps_try_as (i := 2) rfl rfl sc__law_reveals.nd rfl rfl ⟨rfl, by decide, .inl E_InvalidPart.g⟩ takes0 (fun W pn xe tk po =>
      (pss_one (ps_ret (pe_mthX M_reveal tk (hr.mono (by decide)) (pv 0) (pa_cons (pv 1) pa_nil)))))
      (fun a oe cls d pn hz hf =>
      (pss_one (ps_ret (pe_tup (pa_cons pe_str (pa_cons (pe_xf E_InvalidPart.xf E_InvalidPart.no hz hf (pv 2)) pa_nil)))))))), ?_⟩
    walk_at "rd"
    refine ⟨p, dx, _, rfl, h1, rfl, ?_⟩
    walk_at "rd"
    show spRev K C CP _ _ _ _
    unfold spRev
    refine ⟨p, z, wd, nm, sh, hd, ds, rfl, hP, g, kz, fun hz d H' s' hd' => ?_, q⟩
    refine ⟨true, E_InvalidPart.te, fun _ x nx => ?_, fun h => nomatch h⟩
    walk_at "rd"
    refine ⟨d, _, _, rfl, hd', rfl, sz (by show 2 ≤ 100000; decide), fun r nr => ?_⟩
    exact qe hz r _ (Same.trans s' (same_new nr)) upd_same
end
end K02
namespace K02
local macro_rules | `(tactic| walk_at "rd") => `(tactic| repeat (first | refine ⟨rfl, ?_⟩ | refine ⟨_, rfl, ?_⟩ | refine ⟨_, _, rfl, rfl, ?_⟩ | refine ⟨⟨_, rfl⟩, ?_⟩))
open PySem PySem.Spec PyProof.Rows L2 Bx TL Dx Zx Ow Sup Er NdefX Px
open M02 (Dup)
section
variable {P : Program} {w : World} {K : PySem.W.Frag} {mg : Str → Option Value} {base : Heap}
theorem perm_asc {ys sh s : List Str} (pm : ys.Perm sh) (st : sortedS ys = true) (nd : sh.Nodup) (as : Asc s) (m : ∀ x, x ∈ s ↔ x ∈ sh) : ys = s :=
  asc_eq (asc_of st (pm.nodup_iff.mpr nd)) as fun x => pm.mem_iff.trans (m x).symm
theorem catA_of {H : Hp} {a b : Addr} {xs ys : List V} {Q : VK} (ha : SqT K H a xs) (hb : SqT K H b ys) (hl : xs.length + ys.length ≤ sizeLine) (q : ∀ r H', Same H H' → SqT K H' r (xs ++ ys) → Q (.ref r) H') : rCatA K (.ref a) (.ref b) H Q := by
  refine ⟨a, b, xs, ys, rfl, rfl, ha, hb, hl, fun e => ?_, fun _ e => ?_, fun _ _ p np => q p _ (same_new np) (sqt upd_same)⟩
  · subst e
    exact q b H (Same.refl H) hb
  · subst e
    exact q a H (Same.refl H) (by rw [List.append_nil]; exact ha)
@[irreducible] def spShows (K : PySem.W.Frag) (C : Addr) : Sp := fun vs H Q _ => ∃ (p la lb lc : Addr) (wd nm nm' : Str) (s t sh hd : List Str) (zs : List V) (ds : List PyData), vs = [.ref p, .ref la, .ref lb, .ref lc] ∧ PartAt K C H p wd nm s t ds ∧ Asc s ∧ Asc t ∧ (∀ x, x ∈ s ↔ x ∈ sh) ∧ (∀ x, x ∈ t ↔ x ∈ hd) ∧
  H la = some (.lst (sh.map V.str)) ∧ H lb = some (.lst (hd.map V.str)) ∧ H lc = some (.lst zs) ∧ DpAll K H zs ds ∧ Good nm' sh hd ds ∧ Lays 8 ds ∧ ∀ H', Same H H' → Q (.bl true) H'
theorem ok_shows {C : Addr} (cf : K02.CF K C) {f : Addr} {fd : FuncData} (F : Fun K "_law_shows" "_law_shows" s__law_shows f fd) (m_isinstance : mg "isinstance" = none) (m_tuple : mg "tuple" = none) (m_sorted : mg "sorted" = none) (m_len : mg "len" = none)
    (P_names : PropC P w K mg base C "names" 2 (spNames K C)) (P_theory : PropC P w K mg base C "theory" 4 (spTheory K C)) (O___len__ : OwM P w K mg base CX0 C "__len__" 1 ["self"] (spLen K C)) (O___contains__ : OwM P w K mg base CX0 C "__contains__" 1 ["self", "x"] (spCont K C)) (I_Part : ItM P w K mg base C "constraints" 1) :
    FnOk P w K mg base CX0 8 f fd ["_law_part", "_law_shown", "_law_hidden", "_law_constraints"] (spShows K C) := by
  refine F.ok sc__law_shows (fun vs H Q E h => ?_) (fun cdv A outer s H vs Q E hr h => ?_)
  · unfold spShows at h
    obtain ⟨p, la, lb, lc, wd, nm, nm', s, t, sh, hd, zs, ds, rfl, _⟩ := h
    rfl
  · unfold spShows at h
    obtain ⟨p, la, lb, lc, wd, nm, nm', s', t', sh, hd, zs, ds, rfl, hP, as, at', ms, mt, hla, hlb, hlc, hda, g, ly, q⟩ := h
    obtain ⟨dx, a, b, c, ws, h1, h2, h3, h4, h5⟩ := id hP
    have ln := g.ln
    obtain ⟨nd1, nd2, nd3⟩ := List.nodup_append.mp g.nd
    have lS : ∀ (xs : List Str), (∀ x ∈ xs, x ∈ sh ++ hd) → Lay 3 (.tuple (xs.map PyData.str)) := fun xs hx => lay_tuple (lays_strs fun z hz => (List.mem_append.mp (hx z hz)).elim (fun h => (g.ks z h).s) (fun h => (g.kh z h).s))
    have l1 := lS s' fun x hx => List.mem_append_left _ ((ms x).mp hx)
    have l2 := lS t' fun x hx => List.mem_append_right _ ((mt x).mp hx)
    refine ⟨_, (pss_cons (ps_if (PW.pt (pw_or (pt_not (pt_val (pe_callB (id := "isinstance") call_isi (by rfl) m_isinstance (by decide +kernel) (pa_cons (pe_fld (pv 0) rfl) (pa_cons (pe_bltn (v := .ty "tuple") (by rfl) m_tuple (by decide +kernel) rfl) pa_nil))))) (pw_or1 (pt_not (pt_val (pe_callB (id := "isinstance") call_isi (by rfl) m_isinstance (by decide +kernel) (pa_cons (pe_fld (pv 0) rfl) (pa_cons (pe_bltn (v := .ty "tuple") (by rfl) m_tuple (by decide +kernel) rfl) pa_nil))))))))
      (pss_one (ps_ret pe_bl))
      pss_nil)
    (pss_cons (ps_if (PW.pt (pw_or (pt_cmpR (op_neD hr.units) (pe_fld (pv 0) rfl) (pe_callTy (T := "tuple") call_tuple_of (by rfl) m_tuple (by decide +kernel) (pa_cons (pe_callB (id := "sorted") cr_sortedS (by rfl) m_sorted (by decide +kernel) (pa_cons (pv 1) pa_nil)) pa_nil)) (nomark _)) (pw_or1 (pt_cmpR (op_neD hr.units) (pe_fld (pv 0) rfl) (pe_callTy (T := "tuple") call_tuple_of (by rfl) m_tuple (by decide +kernel) (pa_cons (pe_callB (id := "sorted") cr_sortedS (by rfl) m_sorted (by decide +kernel) (pa_cons (pv 2) pa_nil)) pa_nil)) (nomark _)))))
      (pss_one (ps_ret pe_bl))
      pss_nil)
    (pss_cons (ps_set (i := 4) sc__law_shows.nd rfl (Or.inl rfl) (pe_callTy (T := "tuple") call_tuple_of (by rfl) m_tuple (by decide +kernel) (pa_cons (pe_callB (id := "sorted") cr_sortedS (by rfl) m_sorted (by decide +kernel) (pa_cons (pe_op op_cat (pv 1) (pv 2)) pa_nil)) pa_nil)))
    (pss_cons (ps_if (PW.pt (pw_or (pt_cmpR (op_neD hr.units) (pe_propC P_names (hr.mono (by decide)) (pv 0) rfl) (pv 4) (nomark _)) (pw_or (pt_cmpR (op_neD hr.units) (pe_propC P_theory (hr.mono (by decide)) (pv 0) rfl) (pe_tup (pa_cons (pv 4) (pa_cons (pe_callTy (T := "tuple") call_tuple_of (by rfl) m_tuple (by decide +kernel) (pa_cons (pv 3) pa_nil)) pa_nil))) (nomark _)) (pw_or1 (pt_cmpR op_ne (pe_callB (call_lenO O___len__ (hr.mono (by decide))) (by rfl) m_len PySem.boot_len (pa_cons (pv 0) pa_nil)) (pe_callB call_len_seq (by rfl) m_len PySem.boot_len (pa_cons (pv 3) pa_nil)) (nomark _))))))
      (pss_one (ps_ret pe_bl))
      pss_nil)
    (pss_cons (ps_for PassesOwn.never rfl (pi_tup (pe_op op_catA (pv 4) (pe_tup (pa_cons pe_str pa_nil)))) (pg_name (i := 5) sc__law_shows.nd rfl (Or.inl rfl))
      (pss_one (ps_if (pt_cmpR op_ne (pe_cmpR (op_inO O___contains__ (hr.mono (by decide))) (pv 5) (pv 0) (by rfl)) (pe_cmpR op_in_seq (pv 5) (pv 1) (by rfl)) (nomark _))
      (pss_one (ps_ret pe_bl))
      pss_nil)))
    (pss_one (ps_ret (pe_and (pe_cmpR (op_eqD hr.units) (pe_lc (own := [("_law_constraint", 6)]) (tt := tYes) rfl sc__law_shows.nd (pi_iterO I_Part (hr.mono (by decide)) (pv 0)) (blkOk_by (N := n__law_shows) (sc := defScope s__law_shows) (by decide +kernel)) (fun _ _ _ _ _ => pg_name (i := 6) sc__law_shows.nd rfl (Or.inl rfl)) (fun _ _ _ _ _ => pts_nil) (fun _ _ _ _ _ => (pv 6))) (pv 3) (nomark _)) (pe_one (pe_cmpR (op_eqD hr.units) (pe_fld (pv 0) rfl) (pe_callTy (T := "tuple") call_tuple_of (by rfl) m_tuple (by decide +kernel) (pa_cons (pv 3) pa_nil)) (nomark _))))))))))), ?_⟩
    walk_at "rd"
    refine ⟨p, C, dx, _, _, rfl, h1, cf.cl, cf.n3, gS wd nm a b c, ?_⟩
    walk_at "rd"
    refine ⟨_, _, _, _, true, rfl, .ty "tuple", ty_tup h2, kit_ty (by decide +kernel), ?_⟩
    walk_at "rd"
    refine ⟨p, C, dx, _, _, rfl, h1, cf.cl, cf.n4, gH wd nm a b c, ?_⟩
    walk_at "rd"
    refine ⟨_, _, _, _, true, rfl, .ty "tuple", ty_tup h3, kit_ty (by decide +kernel), ?_⟩
    walk_at "rd"
    refine ⟨p, C, dx, _, _, rfl, h1, cf.cl, cf.n3, gS wd nm a b c, ?_⟩
    walk_at "rd"
    refine ⟨la, sh, rfl, sq hla, by omega, fun ys L pm st nL => ?_⟩
    have e1 := perm_asc pm st nd1 as ms
    subst e1
    have sA := same_new nL (o := .lst (ys.map V.str))
    walk_at "rd"
    refine ⟨L, _, rfl, .inl ⟨sq upd_same, fun T nT => ?_⟩⟩
    have s1 := Same.trans sA (same_new nT (o := .tup (ys.map V.str)))
    have hT : (upd (upd H L (.lst (ys.map V.str))) T (.tup (ys.map V.str))) T = some (.tup (ys.map V.str)) := upd_same
    generalize upd (upd H L (.lst (ys.map V.str))) T (.tup (ys.map V.str)) = H1 at s1 hT ⊢
    refine ⟨.tuple (ys.map PyData.str), .tuple (ys.map PyData.str), names_dp (Bx.Same.tup s1 h2), names_dp (sqt hT), shape l1 (by decide), shape l1 (by decide), ?_⟩
    rw [eq_refl l1]
    walk_at "rd"
    have h11 := s1 _ _ h1
    refine ⟨p, C, dx, _, _, rfl, h11, cf.cl, cf.n4, gH wd nm a b c, ?_⟩
    walk_at "rd"
    refine ⟨lb, hd, rfl, sq (s1 _ _ hlb), by omega, fun ys2 L2 pm2 st2 nL2 => ?_⟩
    have e2 := perm_asc pm2 st2 nd2 at' mt
    subst e2
    have sB := same_new nL2 (o := .lst (ys2.map V.str))
    walk_at "rd"
    refine ⟨L2, _, rfl, .inl ⟨sq upd_same, fun T2 nT2 => ?_⟩⟩
    have s2 := Same.trans s1 (Same.trans sB (same_new nT2 (o := .tup (ys2.map V.str))))
    have hT2 : (upd (upd H1 L2 (.lst (ys2.map V.str))) T2 (.tup (ys2.map V.str))) T2 = some (.tup (ys2.map V.str)) := upd_same
    generalize upd (upd H1 L2 (.lst (ys2.map V.str))) T2 (.tup (ys2.map V.str)) = H2 at s2 hT2 ⊢
    refine ⟨.tuple (ys2.map PyData.str), .tuple (ys2.map PyData.str), names_dp (Bx.Same.tup s2 h3), names_dp (sqt hT2), shape l2 (by decide), shape l2 (by decide), ?_⟩
    rw [eq_refl l2]
    walk_at "rd"
    -- the names
    refine ⟨la, lb, _, _, rfl, rfl, s2 _ _ hla, s2 _ _ hlb, (by rw [List.length_map, List.length_map]; exact sz (by omega)), fun L3 nL3 => ?_⟩
    have s3 := Same.trans s2 (same_new nL3 (o := .lst (sh.map V.str ++ hd.map V.str)))
    refine ⟨L3, sh ++ hd, rfl, sq (by rw [upd_same, List.map_append]), (by rw [List.length_append]; omega), fun ns L4 pm3 st3 nL4 => ?_⟩
    have s4 := Same.trans s3 (same_new nL4 (o := .lst (ns.map V.str)))
    walk_at "rd"
    refine ⟨L4, _, rfl, .inl ⟨sq upd_same, fun N nN => ?_⟩⟩
    have s5 := Same.trans s4 (same_new nN (o := .tup (ns.map V.str)))
    have hN : (upd (upd (upd H2 L3 (.lst (sh.map V.str ++ hd.map V.str))) L4 (.lst (ns.map V.str))) N (.tup (ns.map V.str))) N = some (.tup (ns.map V.str)) := upd_same
    generalize upd (upd (upd H2 L3 (.lst (sh.map V.str ++ hd.map V.str))) L4 (.lst (ns.map V.str))) N (.tup (ns.map V.str)) = H3 at s5 hN ⊢
    have ascn := asc_of st3 (pm3.nodup_iff.mpr g.nd)
    have l3 := lS ns fun x hx => pm3.mem_iff.mp hx
    have memn : ∀ x, x ∈ ns ↔ x ∈ ys ++ ys2 := fun x => by
      rw [pm3.mem_iff, List.mem_append, List.mem_append, ms, mt]
    have lny : ys.length + ys2.length ≤ 100 := by
      rw [pm.length_eq, pm2.length_eq]
      omega
    clear s1 s2 s3 s4 sA sB hT hT2 h11 nT nT2 nL nL2 nL3 nL4 nN
    walk_at "rd"
    refine ⟨p, dx, _, rfl, s5 _ _ h1, ?_⟩
    show spNames K C _ _ _ _
    unfold spNames
    refine ⟨p, wd, nm, ys, ys2, ds, rfl, hP.same s5, lny, fun r H4 ns2 s6 hr6 asc6 mem6 => ?_⟩
    have e3 : ns2 = ns := asc_eq asc6 ascn fun x => (mem6 x).trans (memn x).symm
    subst e3
    have s7 := Same.trans s5 s6
    have hN7 := s6 _ _ hN
    walk_at "rd"
    refine ⟨.tuple (ns2.map PyData.str), .tuple (ns2.map PyData.str), names_dp (sqt hr6), names_dp (sqt hN7), shape l3 (by decide), shape l3 (by decide), ?_⟩
    rw [eq_refl l3]
    walk_at "rd"
    refine ⟨p, dx, _, rfl, s7 _ _ h1, ?_⟩
    show spTheory K C _ _ _ _
    unfold spTheory
    refine ⟨p, wd, nm, ys, ys2, ds, rfl, hP.same s7, lny, fun r2 H5 ns3 s8 hr8 asc8 mem8 => ?_⟩
    have e4 : ns3 = ns2 := asc_eq asc8 asc6 fun x => (mem8 x).trans (mem6 x).symm
    subst e4
    have s9 := Same.trans s7 s8
    walk_at "rd"
    refine ⟨lc, _, rfl, .inl ⟨sq (s9 _ _ hlc), fun C1 nC1 => ?_⟩⟩
    have sC := same_new nC1 (o := .tup zs)
    have hC : (upd H5 C1 (.tup zs)) C1 = some (.tup zs) := upd_same
    generalize upd H5 C1 (.tup zs) = H6 at sC hC ⊢
    have s10 := Same.trans s9 sC
    refine ⟨sz (by show 2 ≤ 100000; decide), fun T5 nT5 => ?_⟩
    have sD := same_new nT5 (o := .tup [.ref N, .ref C1])
    have hD : (upd H6 T5 (.tup [.ref N, .ref C1])) T5 = some (.tup [.ref N, .ref C1]) := upd_same
    generalize upd H6 T5 (.tup [.ref N, .ref C1]) = H7 at sD hD ⊢
    have s11 := Same.trans s10 sD
    have l4 : Lay 9 (.tuple ds) := lay_tuple ly
    have l5 : Lay 10 (.tuple [.tuple (ns3.map PyData.str), .tuple ds]) := lay_tuple (lays_cons (lay_up l3 (by decide)) (lays_cons l4 lays_nil))
    have hN11 : H7 N = some (.tup (ns3.map V.str)) := sD _ _ (sC _ _ (s8 _ _ hN7))
    refine ⟨.tuple [.tuple (ns3.map PyData.str), .tuple ds], .tuple [.tuple (ns3.map PyData.str), .tuple ds], dp_same (Same.trans sC sD) hr8,
      .tup (sqt hD) (.cons (names_dp (sqt hN11)) (da_one (.tup (sqt (sD _ _ hC)) (dpAll_same s11 hda)))), shape l5 (by decide), shape l5 (by decide), ?_⟩
    rw [eq_refl l5]
    clear hr8 sC sD hD hC nC1 nT5 s10 s9 s8 s7 hr6 hN7 s6 hN s5
    walk_at "rd"
    refine ⟨p, dx, _, rfl, s11 _ _ h1, ?_⟩
    show spLen K C _ _ _ _
    unfold spLen
    refine ⟨p, wd, nm, ys, ys2, ds, rfl, hP.same s11, ds.length, rfl, by have := g.dl; omega, ?_⟩
    walk_at "rd"
    refine ⟨_, _, rfl, .inl (sq (s11 _ _ hlc)), ?_⟩
    rw [da_len hda]
    walk_at "rd"
    refine ite2 (fun h => by simp at h) (fun _ => ?_)
    walk_at "rd"
    refine ⟨sz (by show 1 ≤ 100000; decide), fun U nU => ?_⟩
    have sU := same_new nU (o := .tup [.str (Str.ofString "nowhere")])
    have hU : (upd H7 U (.tup [.str (Str.ofString "nowhere")])) U = some (.tup [.str (Str.ofString "nowhere")]) := upd_same
    generalize upd H7 U (.tup [.str (Str.ofString "nowhere")]) = H8 at sU hU ⊢
    have lnn : ns3.length ≤ 20 := by
      rw [pm3.length_eq, List.length_append]
      exact ln
    refine catA_of (sqt (sU _ _ hN11)) (sqt hU) (by rw [List.length_map]; exact sz (by show ns3.length + 1 ≤ 100000; omega)) fun R H9 s12 hR => ?_
    have s13 := Same.trans s11 (Same.trans sU s12)
    rw [show ns3.map V.str ++ [V.str (Str.ofString "nowhere")] = (ns3 ++ [Str.ofString "nowhere"]).map V.str by rw [List.map_append]; rfl] at hR
    have hla9 := s13 _ _ hla
    have hP9 := hP.same s13
    refine ⟨R, rfl, ⟨_, hR⟩, for_it walk_tup (fun i σ H' => ∃ o5 o6 : Option V, σ = [some (.ref p), some (.ref la), some (.ref lb), some (.ref lc), some (.ref N), o5, o6] ∧ H' = H9) ⟨none, none, rfl, rfl⟩ (fun i σ H' _ ⟨_, _, _, e⟩ => e ▸ hR) ?_ ?_⟩
    · rintro i v σ H10 H10' hi ⟨o5, o6, rfl, rfl⟩ ⟨rfl, hx⟩
      obtain ⟨z, hz, rfl⟩ := at_map hx
      walk_at "rd"
      refine ⟨p, dx, _, rfl, s13 _ _ h1, ?_⟩
      show spCont K C _ _ _ _
      unfold spCont
      refine ⟨p, z, wd, nm, ys, ys2, ds, rfl, hP9, _, rfl, ?_⟩
      walk_at "rd"
      refine ⟨la, _, rfl, .inl (sq hla9), rfl, flat_strs sh, ?_⟩
      rw [inV_str]
      walk_at "rd"
      refine ite2 (fun h => ?_) (fun _ => ⟨_, _, rfl, rfl⟩)
      have e : decide (z ∈ ys) = decide (z ∈ sh) := decide_eq_decide.mpr (ms z)
      rw [e] at h
      simp at h
    · rintro σ H10 ⟨o5, o6, rfl, rfl⟩
      walk_at "rd"
      have h410 := Bx.Same.tup s13 h4
      have wl : ws.length ≤ 100 := by
        rw [da_len h5]
        exact g.dl
      refine ⟨p, dx, _, c, ws, rfl, s13 _ _ h1, gC wd nm a b c, h410, fun M nM => ?_⟩
      refine lc_it walk_tup (fun n H' => H' = upd H10 M (.lst (ws.take n))) rfl (fun n H' _ e => e ▸ Bx.Same.tup (same_new nM) h410) ?_ ?_
      · rintro n x H11 H11' hi rfl ⟨rfl, hx⟩
        refine ⟨rfl, ?_⟩
        walk_at "rd"
        refine ⟨_, upd_same, ?_, ?_⟩
        · rw [List.length_take]
          exact szl (by omega)
        · rw [upd_upd, List.take_add_one, hx]
          rfl
      rintro H11 rfl
      have sM := same_new nM (o := .lst (ws.take ws.length))
      have hM : (upd H10 M (.lst (ws.take ws.length))) M = some (.lst ws) := by rw [upd_same, List.take_length]
      generalize upd H10 M (.lst (ws.take ws.length)) = H11 at *
      have s14 := Same.trans s13 sM
      have hlc14 := s14 _ _ hlc
      have l6 : Lay 9 (.list ds) := lay_list ly
      walk_at "rd"
      refine ⟨.list ds, .list ds, .lst (sq hM) (dpAll_same s14 h5), .lst (sq hlc14) (dpAll_same s14 hda), shape l6 (by decide), shape l6 (by decide), ?_⟩
      rw [eq_refl l6]
      refine ⟨true, rfl, iteT ?_⟩
      walk_at "rd"
      refine ⟨p, C, dx, _, _, rfl, s14 _ _ h1, cf.cl, cf.n5, gC wd nm a b c, ?_⟩
      walk_at "rd"
      refine ⟨lc, _, rfl, .inl ⟨sq hlc14, fun C2 nC2 => ?_⟩⟩
      have sE := same_new nC2 (o := .tup zs)
      have s15 := Same.trans s14 sE
      refine ⟨.tuple ds, .tuple ds, .tup (Bx.Same.tup s15 h4) (dpAll_same s15 h5), .tup (sqt upd_same) (dpAll_same s15 hda), shape l4 (by decide), shape l4 (by decide), ?_⟩
      rw [eq_refl l4]
      exact q _ s15
end
end K02
namespace K02
local macro_rules | `(tactic| walk_at "rd") => `(tactic| repeat (first | refine ⟨rfl, ?_⟩ | refine ⟨_, rfl, ?_⟩ | refine ⟨_, _, rfl, rfl, ?_⟩ | refine ⟨⟨_, rfl⟩, ?_⟩))
open PySem PySem.Spec PyProof.Rows L2 Bx TL Dx Zx Ow Sup Er NdefX Px
open M02 (Dup)
section
variable {P : Program} {w : World} {K : PySem.W.Frag} {mg : Str → Option Value} {base : Heap}
theorem hides_of {C : Addr} {H : Hp} {p : Addr} {z wd nm : Str} {s t sh hd : List Str} {ds : List PyData} {Q : VK} {E : XK} (hP : PartAt K C H p wd nm s t ds) (as : Asc s) (at' : Asc t) (ms : ∀ x, x ∈ s ↔ x ∈ sh) (mt : ∀ x, x ∈ t ↔ x ∈ hd) (g : Good nm sh hd ds) (kz : OkZ z)
    (qe : z ∉ sh → ∀ r H', Same H H' → H' r = some (.tup [.str (Str.ofString "part"), .str z]) → Q (.ref r) H')
    (q : z ∈ sh → ∀ x H' s' t', Same H H' → Asc s' → Asc t' → (∀ y, y ∈ s' ↔ y ∈ sh.filter fun y => decide (y ≠ z)) → (∀ y, y ∈ t' ↔ y ∈ hd ++ [z]) → PartAt K C H' x wd nm s' t' ds → Q (.ref x) H') : spHides K C [.ref p, .str z] H Q E := by
  obtain ⟨nd1, nd2, nd3⟩ := List.nodup_append.mp g.nd
  unfold spHides
  refine ⟨p, z, wd, nm, s, t, ds, rfl, hP, g.perm (perm_mem (asc_nodup as) nd1 ms) (perm_mem (asc_nodup at') nd2 mt), kz, fun h => qe fun m => h ((ms z).mpr m), fun h x H' s' t' sH a1 a2 m1 m2 hP' => q ((ms z).mp h) x H' s' t' sH a1 a2 (fun y => ?_) (fun y => ?_) hP'⟩
  · rw [m1, List.mem_filter, List.mem_filter, ms]
  · rw [m2, List.mem_append, List.mem_append, mt]
theorem reveals_of {C : Addr} {H : Hp} {p : Addr} {z wd nm : Str} {s t sh hd : List Str} {ds : List PyData} {Q : VK} {E : XK} (hP : PartAt K C H p wd nm s t ds) (as : Asc s) (at' : Asc t) (ms : ∀ x, x ∈ s ↔ x ∈ sh) (mt : ∀ x, x ∈ t ↔ x ∈ hd) (g : Good nm sh hd ds) (kz : OkZ z)
    (qe : ¬ (z ∈ hd ∧ plainB z = true) → ∀ r H', Same H H' → H' r = some (.tup [.str (Str.ofString "part"), .str z]) → Q (.ref r) H')
    (q : z ∈ hd → plainB z = true → ∀ x H' s' t', Same H H' → Asc s' → Asc t' → (∀ y, y ∈ s' ↔ y ∈ sh ++ [z]) → (∀ y, y ∈ t' ↔ y ∈ hd.filter fun y => decide (y ≠ z)) → PartAt K C H' x wd nm s' t' ds → Q (.ref x) H') : spReveals K C [.ref p, .str z] H Q E := by
  obtain ⟨nd1, nd2, nd3⟩ := List.nodup_append.mp g.nd
  unfold spReveals
  refine ⟨p, z, wd, nm, s, t, ds, rfl, hP, g.perm (perm_mem (asc_nodup as) nd1 ms) (perm_mem (asc_nodup at') nd2 mt), kz, fun h => qe fun m => h ⟨(mt z).mpr m.1, m.2⟩, fun h hp x H' s' t' sH a1 a2 m1 m2 hP' => q ((mt z).mp h) hp x H' s' t' sH a1 a2 (fun y => ?_) (fun y => ?_) hP'⟩
  · rw [m1, List.mem_append, List.mem_append, ms]
  · rw [m2, List.mem_filter, List.mem_filter, mt]
theorem shows_of {C : Addr} {H : Hp} {p la lb lc : Addr} {wd nm nm' : Str} {s t sh hd : List Str} {zs : List V} {ds : List PyData} {Q : VK} {E : XK} (hP : PartAt K C H p wd nm s t ds) (as : Asc s) (at' : Asc t) (ms : ∀ x, x ∈ s ↔ x ∈ sh) (mt : ∀ x, x ∈ t ↔ x ∈ hd)
    (ha : H la = some (.lst (sh.map V.str))) (hb : H lb = some (.lst (hd.map V.str))) (hc : H lc = some (.lst zs)) (hda : DpAll K H zs ds) (g : Good nm' sh hd ds) (ly : Lays 8 ds) (q : ∀ H', Same H H' → Q (.bl true) H') : spShows K C [.ref p, .ref la, .ref lb, .ref lc] H Q E := by
  unfold spShows
  exact ⟨p, la, lb, lc, wd, nm, nm', s, t, sh, hd, zs, ds, rfl, hP, as, at', ms, mt, ha, hb, hc, hda, g, ly, q⟩
@[irreducible] def spMoves (K : PySem.W.Frag) (C : Addr) : Sp := fun vs H Q _ => ∃ (p la lb lc : Addr) (z wd nm : Str) (s t sh hd : List Str) (zs : List V) (ds : List PyData), vs = [.ref p, .str z, .ref la, .ref lb, .ref lc] ∧ PartAt K C H p wd nm s t ds ∧ Asc s ∧ Asc t ∧ (∀ x, x ∈ s ↔ x ∈ sh) ∧ (∀ x, x ∈ t ↔ x ∈ hd) ∧
  H la = some (.lst (sh.map V.str)) ∧ H lb = some (.lst (hd.map V.str)) ∧ H lc = some (.lst zs) ∧ DpAll K H zs ds ∧ Good nm sh hd ds ∧ Lays 8 ds ∧ OkZ z ∧ ∀ H', Same H H' → Q (.bl true) H'
theorem ok_moves {C : Addr} {f : Addr} {fd : FuncData} (F : Fun K "_law_moves_right" "_law_moves_right" s__law_moves_right f fd)
    (C__law_hides : Cal P w K mg base "_law_hides" 8 ["_law_part", "_law_name"] (spHides K C)) (C__law_reveals : Cal P w K mg base "_law_reveals" 8 ["_law_part", "_law_name"] (spReveals K C))
    (C__law_shows : Cal P w K mg base "_law_shows" 8 ["_law_part", "_law_shown", "_law_hidden", "_law_constraints"] (spShows K C)) (C__law_is_name : Cal P w K mg base "_law_is_name" 1 ["_law_text"] spLawIsName) :
    FnOk P w K mg base CX0 10 f fd ["_law_part", "_law_name", "_law_shown", "_law_hidden", "_law_constraints"] (spMoves K C) := by
  refine F.ok sc__law_moves_right (fun vs H Q E h => ?_) (fun cdv A outer s H vs Q E hr h => ?_)
  · unfold spMoves at h
    obtain ⟨p, la, lb, lc, z, wd, nm, s, t, sh, hd, zs, ds, rfl, _⟩ := h
    rfl
  · unfold spMoves at h
    obtain ⟨p, la, lb, lc, z, wd, nm, s', t', sh, hd, zs, ds, rfl, hP, as, at', ms, mt, hla, hlb, hlc, hda, g, ly, kz, q⟩ := h
    have ln := g.ln
    have lT : Lay 3 (.tuple [.str (Str.ofString "part"), .str z]) := lay_tuple (lays_cons (lay_str (by decide +kernel)) (lays_cons (lay_str kz.s) lays_nil))
    have tD : ∀ {G : Hp} {r : Addr}, G r = some (.tup [.str (Str.ofString "part"), .str z]) → Dp K G (.ref r) (.tuple [.str (Str.ofString "part"), .str z]) := fun h => .tup (sqt h) (.cons (.str _) (da_one (.str _)))
    refine ⟨_, (pss_cons (ps_set (i := 5) sc__law_moves_right.nd rfl (Or.inl rfl) (pe_cal C__law_hides (hr.mono (by decide)) (pa_cons (pv 0) (pa_cons (pv 1) pa_nil))))
    (pss_cons (ps_if (pt_cmpR op_notIn_seq (pv 1) (pv 2) (by rfl))
      (pss_one (ps_if (pt_cmpR (op_neD hr.units) (pv 5) (pe_tup (pa_cons pe_str (pa_cons (pv 1) pa_nil))) (nomark _))
      (pss_one (ps_ret pe_bl))
      pss_nil))
      (pss_one (ps_if (pt_not (pt_val (pe_cal C__law_shows (hr.mono (by decide)) (pa_cons (pv 5) (pa_cons (pe_lc (own := [("_law_n", 6)]) rfl sc__law_moves_right.nd (pi_list (pv 2)) (blkOk_by (N := n__law_moves_right) (sc := defScope s__law_moves_right) (by decide +kernel)) (fun _ _ _ _ _ => pg_name (i := 6) sc__law_moves_right.nd rfl (Or.inl rfl)) (fun _ _ _ _ _ => pts_one (pt_cmpR op_ne (pv 6) (pv 1) (nomark _))) (fun _ _ _ _ _ => (pv 6))) (pa_cons (pe_op op_cat (pv 3) (pe_lst (pa_cons (pv 1) pa_nil))) (pa_cons (pv 4) pa_nil)))))))
      (pss_one (ps_ret pe_bl))
      pss_nil)))
    (pss_cons (ps_set (i := 5) sc__law_moves_right.nd rfl (Or.inl rfl) (pe_cal C__law_reveals (hr.mono (by decide)) (pa_cons (pv 0) (pa_cons (pv 1) pa_nil))))
    (pss_cons (ps_if (PW.pt (pw_or (pt_cmpR op_notIn_seq (pv 1) (pv 3) (by rfl)) (pw_or1 (pt_not (pt_val (pe_cal C__law_is_name (hr.mono (by decide)) (pa_cons (pv 1) pa_nil)))))))
      (pss_one (ps_ret (pe_cmpR (op_eqD hr.units) (pv 5) (pe_tup (pa_cons pe_str (pa_cons (pv 1) pa_nil))) (nomark _))))
      pss_nil)
    (pss_one (ps_ret (pe_cal C__law_shows (hr.mono (by decide)) (pa_cons (pv 5) (pa_cons (pe_op op_cat (pv 2) (pe_lst (pa_cons (pv 1) pa_nil))) (pa_cons (pe_lc (own := [("_law_n", 6)]) rfl sc__law_moves_right.nd (pi_list (pv 3)) (blkOk_by (N := n__law_moves_right) (sc := defScope s__law_moves_right) (by decide +kernel)) (fun _ _ _ _ _ => pg_name (i := 6) sc__law_moves_right.nd rfl (Or.inl rfl)) (fun _ _ _ _ _ => pts_one (pt_cmpR op_ne (pv 6) (pv 1) (nomark _))) (fun _ _ _ _ _ => (pv 6))) (pa_cons (pv 4) pa_nil))))))))))), ?_⟩
    walk_at "rd"
    apply cont_of2 (R := fun (y : V) (H' : Hp) => Same H H')
    · intro k
      refine hides_of hP as at' ms mt g kz (fun hz r H1 s1 hr1 => ?_) (fun hz x H1 s'' t'' s1 a1 a2 m1 m2 hP1 => ?_)
      · walk_at "rd"
        refine ⟨la, _, rfl, .inl (sq (s1 _ _ hla)), rfl, flat_strs sh, ?_⟩
        rw [inV_str]
        walk_at "rd"
        refine ite2 (fun h0 => ?_) (fun h0 => ?_)
        · walk_at "rd"
          refine ⟨sz (by show 2 ≤ 100000; decide), fun T nT => ?_⟩
          have sT := same_new nT (o := .tup [.str (Str.ofString "part"), .str z])
          refine ⟨_, _, dp_same sT (tD hr1), tD upd_same, shape lT (by decide), shape lT (by decide), ?_⟩
          rw [eq_refl lT]
          walk_at "rd"
          have sT2 := Same.trans s1 sT
          generalize upd H1 T (.tup [.str (Str.ofString "part"), .str z]) = H2 at sT2 ⊢
          generalize V.ref r = y
          exact k y H2 sT2
        · exact absurd hz (by simpa using h0)
      · walk_at "rd"
        refine ⟨la, _, rfl, .inl (sq (s1 _ _ hla)), rfl, flat_strs sh, ?_⟩
        rw [inV_str]
        walk_at "rd"
        refine ite2 (fun h0 => ?_) (fun h0 => ?_)
        · exact absurd hz (by simpa using h0)
        · walk_at "rd"
          have hla1 := s1 _ _ hla
          refine ⟨⟨_, sq hla1⟩, fun L nL => ?_⟩
          refine lc_it walk_list (fun i H' => H' = upd H1 L (.lst (((sh.take i).filter fun y => decide (y ≠ z)).map V.str))) rfl (fun i H' _ e => e ▸ Same.seq (same_new nL) (sq hla1)) ?_ ?_
          · rintro i v H4 H4' hi rfl ⟨rfl, hx⟩
            obtain ⟨y, hy, rfl⟩ := at_map hx
            refine ⟨rfl, ?_⟩
            walk_at "rd"
            refine ite2 (fun h6 => ?_) (fun h6 => ?_)
            · have hne : decide (y ≠ z) = true := by rw [← ne_str]; exact h6
              walk_at "rd"
              refine ⟨_, upd_same, ?_, ?_⟩
              · rw [List.length_map]
                exact szl (Nat.lt_of_le_of_lt (Nat.le_trans (List.length_filter_le _ _) (List.length_take_le' i sh)) (by omega))
              · rw [upd_upd, take_filter hy, show [y].filter (fun y => decide (y ≠ z)) = [y] by rw [List.filter_cons, if_pos hne, List.filter_nil], List.map_append]
                rfl
            · have hne : ¬ decide (y ≠ z) = true := by rw [← ne_str]; exact h6
              rw [take_filter hy, show [y].filter (fun y => decide (y ≠ z)) = [] by rw [List.filter_cons, if_neg hne, List.filter_nil], List.append_nil]
          rintro H4 rfl
          have sM := same_new nL (o := .lst (((sh.take (sh.map V.str).length).filter fun y => decide (y ≠ z)).map V.str))
          have hM : (upd H1 L (.lst (((sh.take (sh.map V.str).length).filter fun y => decide (y ≠ z)).map V.str))) L = some (.lst ((sh.filter fun y => decide (y ≠ z)).map V.str)) := by rw [upd_same, List.length_map, List.take_length]
          generalize upd H1 L (.lst (((sh.take (sh.map V.str).length).filter fun y => decide (y ≠ z)).map V.str)) = H4 at sM hM ⊢
          walk_at "rd"
          refine ⟨sz (by show 1 ≤ 100000; decide), fun L2 nL2 => ?_⟩
          have s2 := same_new nL2 (o := .lst [V.str z])
          have s12 := Same.trans s1 (Same.trans sM s2)
          refine ⟨lb, L2, _, _, rfl, rfl, s12 _ _ hlb, upd_same, (by rw [List.length_map]; exact sz (by show hd.length + 1 ≤ 100000; omega)), fun L3 nL3 => ?_⟩
          have s3 := same_new nL3 (o := .lst (hd.map V.str ++ [V.str z]))
          have hL3 : (upd (upd H4 L2 (.lst [V.str z])) L3 (.lst (hd.map V.str ++ [V.str z]))) L3 = some (.lst ((hd ++ [z]).map V.str)) := by
            rw [upd_same, List.map_append]
            rfl
          have hM3 := s3 _ _ (s2 _ _ hM)
          generalize upd (upd H4 L2 (.lst [V.str z])) L3 (.lst (hd.map V.str ++ [V.str z])) = H5 at s3 hL3 hM3 ⊢
          have s13 := Same.trans s12 s3
          walk_at "rd"
          refine shows_of (hP1.same (Same.trans sM (Same.trans s2 s3))) a1 a2 m1 (fun y => (m2 y)) hM3 hL3 (s13 _ _ hlc) (dpAll_same s13 hda) (g.hide hz) ly fun H6 s6 => ?_
          walk_at "rd"
          exact k (.ref x) _ (Same.trans s13 s6)
    rintro y0 H1 s1
    have hla1 := s1 _ _ hla
    have hlb1 := s1 _ _ hlb
    have hlc1 := s1 _ _ hlc
    have hda1 := dpAll_same s1 hda
    have hP1 := hP.same s1
    walk_at "rd"
    refine reveals_of hP1 as at' ms mt g kz (fun hz r H2 s2 hr2 => ?_) (fun hz hp x H2 s'' t'' s2 a1 a2 m1 m2 hP2 => ?_)
    · walk_at "rd"
      refine ⟨lb, _, rfl, .inl (sq (s2 _ _ hlb1)), rfl, flat_strs hd, ?_⟩
      rw [inV_str]
      walk_at "rd"
      refine ite2 (fun h0 => ?_) (fun h0 => ?_)
      · refine iteT ?_
        walk_at "rd"
        refine ⟨sz (by show 2 ≤ 100000; decide), fun T nT => ?_⟩
        have sT := same_new nT (o := .tup [.str (Str.ofString "part"), .str z])
        refine ⟨_, _, dp_same sT (tD hr2), tD upd_same, shape lT (by decide), shape lT (by decide), ?_⟩
        rw [eq_refl lT]
        exact q _ (Same.trans s1 (Same.trans s2 sT))
      · have hm : z ∈ hd := by simpa using h0
        have hp : plainB z = false := by
          cases e : plainB z with
          | false => rfl
          | true => exact absurd ⟨hm, e⟩ hz
        walk_at "rd"
        refine ⟨by have := kz.l; omega, ?_⟩
        rw [hp]
        walk_at "rd"
        refine ⟨sz (by show 2 ≤ 100000; decide), fun T nT => ?_⟩
        have sT := same_new nT (o := .tup [.str (Str.ofString "part"), .str z])
        refine ⟨_, _, dp_same sT (tD hr2), tD upd_same, shape lT (by decide), shape lT (by decide), ?_⟩
        rw [eq_refl lT]
        exact q _ (Same.trans s1 (Same.trans s2 sT))
    · walk_at "rd"
      refine ⟨lb, _, rfl, .inl (sq (s2 _ _ hlb1)), rfl, flat_strs hd, ?_⟩
      rw [inV_str]
      walk_at "rd"
      refine ite2 (fun h0 => ?_) (fun h0 => ?_)
      · exact absurd hz (by simpa using h0)
      · walk_at "rd"
        refine ⟨by have := kz.l; omega, ?_⟩
        rw [hp]
        walk_at "rd"
        have hla2 := s2 _ _ hla1
        have hlb2 := s2 _ _ hlb1
        refine ⟨sz (by show 1 ≤ 100000; decide), fun L2 nL2 => ?_⟩
        have s3 := same_new nL2 (o := .lst [V.str z])
        walk_at "rd"
        refine ⟨la, L2, _, _, rfl, rfl, s3 _ _ hla2, upd_same, (by rw [List.length_map]; exact sz (by show sh.length + 1 ≤ 100000; omega)), fun L3 nL3 => ?_⟩
        have s4 := Same.trans s3 (same_new nL3 (o := .lst (sh.map V.str ++ [V.str z])))
        have hL3 : (upd (upd H2 L2 (.lst [V.str z])) L3 (.lst (sh.map V.str ++ [V.str z]))) L3 = some (.lst ((sh ++ [z]).map V.str)) := by
          rw [upd_same, List.map_append]
          rfl
        generalize upd (upd H2 L2 (.lst [V.str z])) L3 (.lst (sh.map V.str ++ [V.str z])) = H3 at s4 hL3 ⊢
        have hlb3 := s4 _ _ hlb2
        walk_at "rd"
        refine ⟨⟨_, sq hlb3⟩, fun L nL => ?_⟩
        refine lc_it walk_list (fun i H' => H' = upd H3 L (.lst (((hd.take i).filter fun y => decide (y ≠ z)).map V.str))) rfl (fun i H' _ e => e ▸ Same.seq (same_new nL) (sq hlb3)) ?_ ?_
        · rintro i v H4 H4' hi rfl ⟨rfl, hx⟩
          obtain ⟨y, hy, rfl⟩ := at_map hx
          refine ⟨rfl, ?_⟩
          walk_at "rd"
          refine ite2 (fun h6 => ?_) (fun h6 => ?_)
          · have hne : decide (y ≠ z) = true := by rw [← ne_str]; exact h6
            walk_at "rd"
            refine ⟨_, upd_same, ?_, ?_⟩
            · rw [List.length_map]
              exact szl (Nat.lt_of_le_of_lt (Nat.le_trans (List.length_filter_le _ _) (List.length_take_le' i hd)) (by omega))
            · rw [upd_upd, take_filter hy, show [y].filter (fun y => decide (y ≠ z)) = [y] by rw [List.filter_cons, if_pos hne, List.filter_nil], List.map_append]
              rfl
          · have hne : ¬ decide (y ≠ z) = true := by rw [← ne_str]; exact h6
            rw [take_filter hy, show [y].filter (fun y => decide (y ≠ z)) = [] by rw [List.filter_cons, if_neg hne, List.filter_nil], List.append_nil]
        rintro H4 rfl
        have sM := same_new nL (o := .lst (((hd.take (hd.map V.str).length).filter fun y => decide (y ≠ z)).map V.str))
        have hM : (upd H3 L (.lst (((hd.take (hd.map V.str).length).filter fun y => decide (y ≠ z)).map V.str))) L = some (.lst ((hd.filter fun y => decide (y ≠ z)).map V.str)) := by rw [upd_same, List.length_map, List.take_length]
        generalize upd H3 L (.lst (((hd.take (hd.map V.str).length).filter fun y => decide (y ≠ z)).map V.str)) = H4 at sM hM ⊢
        have s5 := Same.trans s2 (Same.trans s4 sM)
        walk_at "rd"
        exact shows_of (hP2.same (Same.trans s4 sM)) a1 a2 m1 m2 (sM _ _ hL3) hM (s5 _ _ hlc1) (dpAll_same s5 hda1) (g.show hz hp) ly fun H6 s6 => q _ (Same.trans s1 (Same.trans s5 s6))
end
end K02
namespace K02
local macro_rules | `(tactic| walk_at "rd") => `(tactic| repeat (first | refine ⟨rfl, ?_⟩ | refine ⟨_, rfl, ?_⟩ | refine ⟨_, _, rfl, rfl, ?_⟩ | refine ⟨⟨_, rfl⟩, ?_⟩))
open PySem PySem.Spec PyProof.Rows L2 Bx TL Dx Zx Ow Sup Er NdefX Px
open M02 (Dup)
section
variable {P : Program} {w : World} {K : PySem.W.Frag} {mg : Str → Option Value} {base : Heap}
abbrev newD : PyData := .tuple [.str (Str.ofString "new")]
@[irreducible] def spOthers (K : PySem.W.Frag) (C : Addr) : Sp := fun vs H Q _ => ∃ (p la lb lc : Addr) (wd nm : Str) (s t sh hd : List Str) (zs : List V) (ds : List PyData), vs = [.ref p, .ref la, .ref lb, .ref lc] ∧ PartAt K C H p wd nm s t ds ∧ Asc s ∧ Asc t ∧ (∀ x, x ∈ s ↔ x ∈ sh) ∧ (∀ x, x ∈ t ↔ x ∈ hd) ∧
  H la = some (.lst (sh.map V.str)) ∧ H lb = some (.lst (hd.map V.str)) ∧ H lc = some (.lst zs) ∧ DpAll K H zs ds ∧ Good nm sh hd ds ∧ Lays 8 ds ∧ ds.length ≤ 50 ∧ ∀ H', Same H H' → Q (.bl true) H'
theorem ok_others {C CN : Addr} (cf : K02.CF K C) {f : Addr} {fd : FuncData} (F : Fun K "_law_others_right" "_law_others_right" s__law_others_right f fd) (m_list : mg "list" = none) (g_Part : mg "Part" = some (.ref C))
    (C__law_shows : Cal P w K mg base "_law_shows" 8 ["_law_part", "_law_shown", "_law_hidden", "_law_constraints"] (spShows K C)) (O___len__ : OwM P w K mg base CX0 C "__len__" 1 ["self"] (spLen K C)) (I_Part : ItM P w K mg base C "constraints" 1)
    (M_with_constraints : MthC P w K mg base C "with_constraints" 7 ["self", "constraints"] (spWith K C)) (M_called : MthX P w K mg base C "called" 7 ["self", "name"] (spCalled K C CN)) (M_bare : CmC P w K mg base C "bare" 7 (spBare K C))
    (E_InvalidName : Err P w K mg base "InvalidName" CN "name" "name" okS 1) : FnOk P w K mg base CX0 10 f fd ["_law_part", "_law_shown", "_law_hidden", "_law_constraints"] (spOthers K C) := by
  refine F.ok sc__law_others_right (fun vs H Q E h => ?_) (fun cdv A outer s H vs Q E hr h => ?_)
  · unfold spOthers at h
    obtain ⟨p, la, lb, lc, wd, nm, s, t, sh, hd, zs, ds, rfl, _⟩ := h
    rfl
  · unfold spOthers at h
    obtain ⟨p, la, lb, lc, wd, nm, s', t', sh, hd, zs, ds, rfl, hP, as, at', ms, mt, hla, hlb, hlc, hda, g, ly, dl, q⟩ := h
    obtain ⟨dx, a, b, c, ws, h1, h2, h3, h4, h5⟩ := id hP
    obtain ⟨nd1, nd2, nd3⟩ := List.nodup_append.mp g.nd
    have g1 : Good nm sh hd (newD :: ds) := ⟨g.nb, g.sb, g.hb, g.kn, g.ks, g.kh, g.nd, g.ln, g.td, by show ds.length + 1 ≤ 100; omega⟩
    have g2 : Good nm s' t' (newD :: ds) := g1.perm (perm_mem (asc_nodup as) nd1 ms) (perm_mem (asc_nodup at') nd2 mt)
    have zl : zs.length ≤ 50 := by
      rw [da_len hda]
      exact dl
    have ly1 : Lays 8 (newD :: ds) := lays_cons (lay_up (lay_tuple (n := 1) (lays_cons (lay_str (by decide +kernel)) lays_nil)) (by decide)) ly
    refine ⟨_, (pss_cons (ps_set (i := 4) sc__law_others_right.nd rfl (Or.inl rfl) (pe_mth M_with_constraints (hr.mono (by decide)) (pv 0) (pa_cons (pe_op op_cat (pe_lst (pa_cons (pe_tup (pa_cons pe_str pa_nil)) pa_nil)) (pv 3)) pa_nil)))
    (pss_cons (ps_if (PW.pt (pw_or (pt_not (pt_val (pe_cal C__law_shows (hr.mono (by decide)) (pa_cons (pv 4) (pa_cons (pv 1) (pa_cons (pv 2) (pa_cons (pe_op op_cat (pe_lst (pa_cons (pe_tup (pa_cons pe_str pa_nil)) pa_nil)) (pv 3)) pa_nil))))))) (pw_or1 (pt_cmpR op_ne (pe_fld (pv 4) rfl) (pe_fld (pv 0) rfl) (nomark _)))))
      (pss_one (ps_ret pe_bl))
      pss_nil)
    (pss_cons (ps_set (i := 5) sc__law_others_right.nd rfl (Or.inl rfl) (pe_mthN M_called (hr.mono (by decide)) (pv 4) (pa_cons pe_str pa_nil)))
    (pss_cons (ps_if (PW.pt (pw_or (pt_cmpR op_ne (pe_fld (pv 5) rfl) pe_str (nomark _)) (pw_or (pt_cmpR op_ne (pe_fld (pv 5) rfl) (pe_fld (pv 0) rfl) (nomark _)) (pw_or1 (pt_not (pt_val (pe_cal C__law_shows (hr.mono (by decide)) (pa_cons (pv 5) (pa_cons (pv 1) (pa_cons (pv 2) (pa_cons (pe_callTy (T := "list") (call_listO rfl I_Part O___len__ (hr.mono (by decide))) (by rfl) m_list (by decide +kernel) (pa_cons (pv 4) pa_nil)) pa_nil)))))))))))
      (pss_one (ps_ret pe_bl))
      pss_nil)
    (pss_cons (ps_set (i := 6) sc__law_others_right.nd rfl (Or.inl rfl) (pe_cme M_bare (hr.mono (by decide)) (pe_glob (v := .ref C) rfl g_Part rfl) (pa_cons pe_str (pa_cons pe_str pa_nil))))
    (pss_cons (ps_if (PW.pt (pw_or (pt_cmpR op_ne (pe_fld (pv 6) rfl) pe_str (nomark _)) (pw_or (pt_cmpR op_ne (pe_fld (pv 6) rfl) pe_str (nomark _)) (pw_or1 (pt_not (pt_val (pe_cal C__law_shows (hr.mono (by decide)) (pa_cons (pv 6) (pa_cons (pe_lst pa_nil) (pa_cons (pe_lst pa_nil) (pa_cons (pe_lst pa_nil) pa_nil)))))))))))
      (pss_one (ps_ret pe_bl))
      pss_nil)
    (pss_cons (ps_try_as (i := 7) rfl rfl sc__law_others_right.nd rfl rfl ⟨rfl, by decide, .inl E_InvalidName.g⟩ takes0 (fun W pn xe tk po =>
      (pss_one (ps_expr (pe_mthX M_called tk (hr.mono (by decide)) (pv 0) (pa_cons pe_str pa_nil)))))
      (fun a oe cls d pn hz hf =>
      (pss_one (ps_ret (pe_cmpR op_eq (pe_xf E_InvalidName.xf E_InvalidName.no hz hf (pv 7)) pe_str (nomark _))))))
    (pss_one (ps_ret pe_bl))))))))), ?_⟩
    walk_at "rd"
    refine ⟨p, dx, _, rfl, h1, rfl, ?_⟩
    walk_at "rd"
    refine ⟨sz (by show 1 ≤ 100000; decide), fun T nT => ?_⟩
    have sT := same_new nT (o := .tup [.str (Str.ofString "new")])
    have hT : (upd H T (.tup [.str (Str.ofString "new")])) T = some (.tup [.str (Str.ofString "new")]) := upd_same
    generalize upd H T (.tup [.str (Str.ofString "new")]) = H1 at sT hT ⊢
    walk_at "rd"
    refine ⟨sz (by show 1 ≤ 100000; decide), fun L1 nL1 => ?_⟩
    have s2 := same_new nL1 (o := .lst [.ref T])
    walk_at "rd"
    refine ⟨L1, lc, _, _, rfl, rfl, upd_same, s2 _ _ (sT _ _ hlc), (by show 1 + zs.length ≤ sizeLine; exact sz (by omega)), fun L2 nL2 => ?_⟩
    have s3 := Same.trans s2 (same_new nL2 (o := .lst ([.ref T] ++ zs)))
    have hL2 : (upd (upd H1 L1 (.lst [.ref T])) L2 (.lst ([.ref T] ++ zs))) L2 = some (.lst (.ref T :: zs)) := upd_same
    generalize upd (upd H1 L1 (.lst [.ref T])) L2 (.lst ([.ref T] ++ zs)) = H2 at s3 hL2 ⊢
    have s12 := Same.trans sT s3
    have da2 : DpAll K H2 (.ref T :: zs) (newD :: ds) := .cons (.tup (sqt (s3 _ _ hT)) (da_one (.str _))) (dpAll_same s12 hda)
    show spWith K C _ _ _ _
    unfold spWith
    refine ⟨p, L2, wd, nm, s', t', ds, _, newD :: ds, rfl, hP.same s12, as, at', g2, .inl (sq hL2), da2, fun x H3 s34 hP3 => ?_⟩
    have s13 := Same.trans s12 s34
    clear sT s2 s3 hL2 da2 nL1 nL2 hT nT
    -- the revised one
    walk_at "rd"
    refine ⟨sz (by show 1 ≤ 100000; decide), fun T nT => ?_⟩
    have sT := same_new nT (o := .tup [.str (Str.ofString "new")])
    have hT : (upd H3 T (.tup [.str (Str.ofString "new")])) T = some (.tup [.str (Str.ofString "new")]) := upd_same
    generalize upd H3 T (.tup [.str (Str.ofString "new")]) = H4 at sT hT ⊢
    walk_at "rd"
    refine ⟨sz (by show 1 ≤ 100000; decide), fun L3 nL3 => ?_⟩
    have s2 := same_new nL3 (o := .lst [.ref T])
    walk_at "rd"
    refine ⟨L3, lc, _, _, rfl, rfl, upd_same, s2 _ _ (sT _ _ (s13 _ _ hlc)), (by show 1 + zs.length ≤ sizeLine; exact sz (by omega)), fun L4 nL4 => ?_⟩
    have s3 := Same.trans s2 (same_new nL4 (o := .lst ([.ref T] ++ zs)))
    have hL4 : (upd (upd H4 L3 (.lst [.ref T])) L4 (.lst ([.ref T] ++ zs))) L4 = some (.lst (.ref T :: zs)) := upd_same
    generalize upd (upd H4 L3 (.lst [.ref T])) L4 (.lst ([.ref T] ++ zs)) = H5 at s3 hL4 ⊢
    have s35 := Same.trans sT s3
    have s15 := Same.trans s13 s35
    have da5 : DpAll K H5 (.ref T :: zs) (newD :: ds) := .cons (.tup (sqt (s3 _ _ hT)) (da_one (.str _))) (dpAll_same s15 hda)
    refine shows_of (hP3.same s35) as at' ms mt (s15 _ _ hla) (s15 _ _ hlb) hL4 da5 g1 ly1 fun H6 s56 => ?_
    have s36 := Same.trans s35 s56
    have s16 := Same.trans s13 s36
    clear sT s2 s3 hL4 da5 nL3 nL4 hT nT s35 s15 s56 s13 s12 s34
    have hP6 := hP3.same s36
    obtain ⟨dx', a', b', c', ws', i1, i2, i3, i4, i5⟩ := id hP6
    walk_at "rd"
    refine ⟨x, C, dx', _, _, rfl, i1, cf.cl, cf.n2, gN wd nm a' b' c', ?_⟩
    walk_at "rd"
    refine ⟨p, C, dx, _, _, rfl, s16 _ _ h1, cf.cl, cf.n2, gN wd nm a b c, ?_⟩
    walk_at "rd"
    refine ite2 (fun h => by simp at h) (fun _ => ?_)
    walk_at "rd"
    refine ⟨x, dx', _, rfl, i1, rfl, ?_⟩
    walk_at "rd"
    show spCalled K C CN _ _ _ _
    unfold spCalled
    have kz0 : OkZ (Str.ofString "z0") := okZ_of (by decide +kernel)
    refine ⟨x, Str.ofString "z0", wd, nm, s', t', newD :: ds, rfl, hP6, as, at', g2, kz0, fun h => absurd h (by rw [show plainB (Str.ofString "z0") = true by decide +kernel]; simp), fun _ y H7 s67 hP7 => ?_⟩
    have s17 := Same.trans s16 s67
    obtain ⟨dy, a2, b2, c2, ws2, j1, j2, j3, j4, j5⟩ := id hP7
    walk_at "rd"
    refine ⟨y, C, dy, _, _, rfl, j1, cf.cl, cf.n2, gN wd _ a2 b2 c2, ?_⟩
    walk_at "rd"
    refine ⟨y, C, dy, _, _, rfl, j1, cf.cl, cf.n1, gW wd _ a2 b2 c2, ?_⟩
    walk_at "rd"
    refine ⟨p, C, dx, _, _, rfl, s17 _ _ h1, cf.cl, cf.n1, gW wd nm a b c, ?_⟩
    walk_at "rd"
    refine ite2 (fun h => by simp at h) (fun _ => ?_)
    walk_at "rd"
    have wl2 : ws'.length ≤ 60 := by
      rw [da_len i5]
      show ds.length + 1 ≤ 60
      omega
    refine ⟨x, dx', c', _, ws', rfl, s67 _ _ i1, gC wd nm a' b' c', Bx.Same.tup s67 i4, by omega, fun G sG => ?_, fun L5 nL5 => ?_⟩
    · show spLen K C _ _ _ _
      unfold spLen
      exact ⟨x, wd, nm, s', t', newD :: ds, rfl, hP6.same (Same.trans s67 sG), rfl, _, rfl, by show ds.length + 1 ≤ 1000; omega⟩
    have sL := same_new nL5 (o := .lst ws')
    have s18 := Same.trans s17 sL
    refine shows_of (hP7.same sL) as at' ms mt (s18 _ _ hla) (s18 _ _ hlb) upd_same (dpAll_same (Same.trans s67 sL) i5) g1 ly1 fun H8 s8 => ?_
    have s19 := Same.trans s18 s8
    clear s18 s17 s16 s36 s67 sL
    walk_at "rd"
    show spBare K C _ _ _ _
    unfold spBare
    have gB : Good (Str.ofString "b7") [] [] [] := ⟨by decide +kernel, (fun _ h => nomatch h), (fun _ h => nomatch h), okZ_of (by decide +kernel), (fun _ h => nomatch h), (fun _ h => nomatch h), .nil, Nat.zero_le _, rfl, Nat.zero_le _⟩
    refine ⟨_, _, rfl, gB, fun v H9 s9 hP9 => ?_⟩
    have s20 := Same.trans s19 s9
    obtain ⟨dv, a3, b3, c3, ws3, k1, k2, k3, k4, k5⟩ := id hP9
    walk_at "rd"
    refine ⟨v, C, dv, _, _, rfl, k1, cf.cl, cf.n1, gW _ _ a3 b3 c3, ?_⟩
    walk_at "rd"
    refine ⟨v, C, dv, _, _, rfl, k1, cf.cl, cf.n2, gN _ _ a3 b3 c3, ?_⟩
    walk_at "rd"
    refine ⟨sz (by show 0 ≤ 100000; decide), fun E1 e1 => ?_⟩
    have t1 := same_new e1 (o := .lst [])
    walk_at "rd"
    refine ⟨sz (by show 0 ≤ 100000; decide), fun E2 e2 => ?_⟩
    have t2 := same_new e2 (o := .lst [])
    walk_at "rd"
    refine ⟨sz (by show 0 ≤ 100000; decide), fun E3 e3 => ?_⟩
    have t3 := same_new e3 (o := .lst [])
    have t13 := Same.trans t1 (Same.trans t2 t3)
    refine shows_of (sh := []) (hd := []) (zs := []) (ds := []) (hP9.same t13) .nil .nil (fun _ => Iff.rfl) (fun _ => Iff.rfl) (t3 _ _ (t2 _ _ upd_same)) (t3 _ _ upd_same) upd_same .nil gB lays_nil fun H10 s10 => ?_
    have s21 := Same.trans s20 (Same.trans t13 s10)
    clear s20 s19 s9 s8 t1 t2 t3 t13
    walk_at "rd"
    refine ⟨p, dx, _, rfl, s21 _ _ h1, rfl, ?_⟩
    walk_at "rd"
    have g3 : Good nm s' t' ds := g.perm (perm_mem (asc_nodup as) nd1 ms) (perm_mem (asc_nodup at') nd2 mt)
    have bad : plainB (Str.ofString "no name") = false := by decide +kernel
    refine ⟨p, Str.ofString "no name", wd, nm, s', t', ds, rfl, hP.same s21, as, at', g3, okZ_of (by decide +kernel), fun _ d H11 s11 hd11 => ?_, fun h => absurd h (by rw [bad]; simp)⟩
    refine ⟨true, E_InvalidName.te, fun _ e ne => ?_, fun h => nomatch h⟩
    walk_at "rd"
    refine ⟨d, _, _, rfl, hd11, rfl, ?_⟩
    walk_at "rd"
    exact q _ (Same.trans s21 s11)
end
end K02
namespace K02
local macro_rules | `(tactic| walk_at "rd") => `(tactic| repeat (first | refine ⟨rfl, ?_⟩ | refine ⟨_, rfl, ?_⟩ | refine ⟨_, _, rfl, rfl, ?_⟩ | refine ⟨⟨_, rfl⟩, ?_⟩))
open PySem PySem.Spec PyProof.Rows L2 Bx TL Dx Zx Ow Sup Er NdefX Px
open M02 (Dup)
/-! ### the error is one -/
theorem kind_one {nm k k' z z' : Str} {sh hd : List Str} (h : kindOf nm sh hd k z) (h' : kindOf nm sh hd k' z') : k = k' ∧ z = z' := by
  rcases h with ⟨a, b⟩ | ⟨a, b, c⟩ | ⟨a, b, c, d⟩ <;> rcases h' with ⟨a', b'⟩ | ⟨a', b', c'⟩ | ⟨a', b', c', d'⟩
  · rw [a] at a'
    exact ⟨b.trans b'.symm, Option.some.inj a'⟩
  · rw [a] at a'
    cases a'
  · rw [a] at a'
    cases a'
  · rw [a] at a'
    cases a'
  · exact ⟨c.trans c'.symm, M02.dup_one b b'⟩
  · exact absurd b.1 (M02.count_nodup b' z)
  · rw [a] at a'
    cases a'
  · exact absurd b'.1 (M02.count_nodup b z')
  · exact ⟨c.trans c'.symm, d.trans d'.symm⟩
theorem bad_mem {nm z : Str} {sh hd : List Str} (h : badN nm sh hd = some z) : z = nm ∨ z ∈ sh ∨ z ∈ hd := by
  unfold badN at h
  cases e : (nm :: sh).find? fun z => !plainB z with
  | some y =>
    rw [e] at h
    cases h
    rcases List.mem_cons.mp (List.mem_of_find?_eq_some e) with h | h
    · exact .inl h
    · exact .inr (.inl h)
  | none =>
    rw [e] at h
    exact .inr (.inr (List.mem_of_find?_eq_some h))
theorem kind_lay {nm k z : Str} {sh hd : List Str} (h : kindOf nm sh hd k z) (kn : OkZ nm) (ks : ∀ z ∈ sh, OkZ z) (kh : ∀ z ∈ hd, OkZ z) : Lay 1 (.tuple [.str k, .str z]) := by
  have go : PyData.strOk k = true → PyData.strOk z = true → Lay 1 (.tuple [.str k, .str z]) := fun a b => lay_tuple (lays_cons (lay_str a) (lays_cons (lay_str b) lays_nil))
  rcases h with ⟨a, rfl⟩ | ⟨a, b, rfl⟩ | ⟨a, b, rfl, rfl⟩
  · refine go (by decide +kernel) ?_
    rcases bad_mem a with rfl | h | h
    · exact kn.s
    · exact (ks z h).s
    · exact (kh z h).s
  · refine go (by decide +kernel) ?_
    rcases List.mem_append.mp (List.count_pos_iff.mp (Nat.lt_trans Nat.zero_lt_one b.1)) with h | h
    · exact (ks z h).s
    · exact (kh z h).s
  · exact go (by decide +kernel) (by decide +kernel)
theorem kind_good {nm k z : Str} {sh hd : List Str} {ds : List PyData} (h : kindOf nm sh hd k z) (e : k = Str.ofString "none") (kn : OkZ nm) (ks : ∀ z ∈ sh, OkZ z) (kh : ∀ z ∈ hd, OkZ z) (ln : sh.length + hd.length ≤ 20) (td : tupAll ds = true) (dl : ds.length ≤ 100) : Good nm sh hd ds := by
  subst e
  rcases h with ⟨a, b⟩ | ⟨a, b, c⟩ | ⟨a, b, c, d⟩
  · exact absurd b (by decide +kernel)
  · exact absurd c (by decide +kernel)
  · unfold badN at a
    cases e1 : (nm :: sh).find? fun z => !plainB z with
    | some y =>
      rw [e1] at a
      cases a
    | none =>
      rw [e1] at a
      have a2 : hd.find? (fun z => !fullB z) = none := a
      have p1 : ∀ x ∈ nm :: sh, plainB x = true := fun x hx => by
        have := List.find?_eq_none.mp e1 x hx
        simpa using this
      have p2 : ∀ x ∈ hd, fullB x = true := fun x hx => by
        have := List.find?_eq_none.mp a2 x hx
        simpa using this
      exact ⟨p1 nm List.mem_cons_self, fun z h => p1 z (List.mem_cons_of_mem _ h), p2, kn, ks, kh, b, ln, td, dl⟩
/-! ### the constraints -/
def conD (k : Nat) : PyData := .tuple [.tuple [], .tuple (List.replicate k (.tuple []))]
def cons (n : Nat) : List PyData := (List.range n).map conD
theorem con_facts : ∀ n, n ≤ 3 → tupAll (cons n) = true ∧ PyData.canLayAll0 (cons n) = true ∧ PyData.depthAll (cons n) ≤ 8 := by decide +kernel
theorem con_td {n : Nat} (h : n ≤ 3) : tupAll (cons n) = true := (con_facts n h).1
theorem con_ly {n : Nat} (h : n ≤ 3) : Lays 8 (cons n) := (con_facts n h).2
theorem con_d {n : Nat} (h : n < 3) : tupD (conD n) = true := (show ∀ n, n < 3 → tupD (conD n) = true by decide +kernel) n h
theorem con_len (n : Nat) : (cons n).length = n := by
  unfold cons
  rw [List.length_map, List.length_range]
theorem con_succ (n : Nat) : cons (n + 1) = cons n ++ [conD n] := by
  unfold cons
  rw [List.range_succ, List.map_append]
  rfl
section
variable {P : Program} {w : World} {K : PySem.W.Frag} {mg : Str → Option Value} {base : Heap}
theorem op_repAK {X : Cx} {K0 : PySem.W.Frag} (hk : X.K = K0) : OpR X (binaryOp .Mult) (rRepA K0) := by
  subst hk
  exact op_repA
theorem rep_of {H : Hp} {l : Addr} {k : Nat} {j : Int} {xs : List V} {Q : VK} (e : j = (k : Int)) (h : SqT K H l xs) (hne : xs ≠ []) (hk : k ≤ 1000) (hx : xs.length ≤ 1000) (q : ∀ r H', Same H H' → SqT K H' r (List.replicate k xs).flatten → Q (.ref r) H') : rRepA K (.ref l) (.int j) H Q := by
  refine ⟨l, k, xs, rfl, by rw [e], h, hne, hk, hx, fun e1 => ?_, fun _ p np => q p _ (same_new np) (sqt upd_same)⟩
  subst e1
  refine q l H (Same.refl H) ?_
  rw [List.replicate_succ, List.replicate_zero, List.flatten_cons, List.flatten_nil, List.append_nil]
  exact h
theorem units_dp {H : Hp} {t : Addr} (h : H t = some (.tup [])) : ∀ k, DpAll K H (List.replicate k [V.ref t]).flatten (List.replicate k (.tuple []))
  | 0 => .nil
  | k + 1 => by
    rw [List.replicate_succ, List.flatten_cons, List.replicate_succ]
    exact .cons (.tup (sqt h) .nil) (units_dp h k)
theorem names_of {H : Hp} {a : Addr} {b : Bool} {Q : VK} {E : XK} (hA : Src H a) (q : ∀ r (ms : List Str) H', SameBut a H H' → Src H' a → H r = none → H' r = some (.lst (ms.map V.str)) → ms.length ≤ 4 → (∀ z ∈ ms, OkZ z) → Q (.ref r) H') : spNm [.ref a, .bl b] H Q E := by
  unfold spNm
  exact ⟨a, b, rfl, hA, q⟩
def spLaw (K : PySem.W.Frag) : Sp := fun vs H Q _ => ∃ (a : Addr) (ns : List Int), vs = [.ref a] ∧ SqL K H a (ns.map V.int) ∧ ns.length ≤ 63 ∧ ∀ H', Q (.bl true) H'
theorem ok_law {C CN CP : Addr} (cf : K02.CF K C) {f : Addr} {fd : FuncData} (F : Fun K "law" "law" s_law f fd) (m_list : mg "list" = none) (m_range : mg "range" = none) (m_tuple : mg "tuple" = none) (K_P : MkP P w K mg base C CN CP)
    (C__law_source : Cal P w K mg base "_law_source" 1 ["_law_script", "_law_k"] (spSource K)) (C__law_draw : CDraw P w K mg base) (C__law_plain : Cal P w K mg base "_law_plain" 2 ["_law_source_here"] spPlain) (C__law_names : Cal P w K mg base "_law_names" 3 ["_law_source_here", "_law_dotted"] spNm)
    (C__law_expected_error : Cal P w K mg base "_law_expected_error" 3 ["_law_name", "_law_shown", "_law_hidden"] (spExp K)) (C__law_raised : Cal P w K mg base "_law_raised" 7 ["_law_name", "_law_shown", "_law_hidden"] (spRaised K))
    (C__law_shows : Cal P w K mg base "_law_shows" 8 ["_law_part", "_law_shown", "_law_hidden", "_law_constraints"] (spShows K C)) (C__law_moves_right : Cal P w K mg base "_law_moves_right" 10 ["_law_part", "_law_name", "_law_shown", "_law_hidden", "_law_constraints"] (spMoves K C))
    (C__law_others_right : Cal P w K mg base "_law_others_right" 10 ["_law_part", "_law_shown", "_law_hidden", "_law_constraints"] (spOthers K C)) : FnOk P w K mg base CX0 11 f fd ["_law_script"] (spLaw K) := by
  refine F.ok sc_law (fun vs H Q E h => ?_) (fun cdv A outer s H vs Q E hr h => ?_)
  · unfold spLaw at h
    obtain ⟨a, ns, rfl, _⟩ := h
    rfl
  · unfold spLaw at h
    obtain ⟨a, sc, rfl, hs, hsl, q⟩ := h
    refine ⟨_, (pss_cons (ps_set (i := 1) sc_law.nd rfl (Or.inl rfl) (pe_cal C__law_source (hr.mono (by decide)) (pa_cons (pv 0) (pa_cons pe_int pa_nil))))
    (pss_cons (ps_set (i := 2) sc_law.nd rfl (Or.inl rfl) (pe_cal C__law_plain (hr.mono (by decide)) (pa_cons (pv 1) pa_nil)))
    (pss_cons (ps_if (pt_cmpR op_eq (pe_cal C__law_draw (hr.mono (by decide)) (pa_cons (pv 1) (pa_cons pe_int pa_nil))) pe_int (nomark _))
      (pss_one (ps_set (i := 2) sc_law.nd rfl (Or.inl rfl) pe_str))
      pss_nil)
    (pss_cons (ps_set (i := 3) sc_law.nd rfl (Or.inl rfl) (pe_cal C__law_names (hr.mono (by decide)) (pa_cons (pe_cal C__law_source (hr.mono (by decide)) (pa_cons (pv 0) (pa_cons pe_int pa_nil))) (pa_cons pe_bl pa_nil))))
    (pss_cons (ps_set (i := 4) sc_law.nd rfl (Or.inl rfl) (pe_cal C__law_names (hr.mono (by decide)) (pa_cons (pe_cal C__law_source (hr.mono (by decide)) (pa_cons (pv 0) (pa_cons pe_int pa_nil))) (pa_cons pe_bl pa_nil))))
    (pss_cons (ps_setLc (i := 5) (own := [("_law_k", 9)]) (tt := tYes) rfl sc_law.nd rfl rfl (sw_true rfl rfl rfl (by decide +kernel)) (pi_range1 (by rfl) m_range (pa_cons (pe_cal C__law_draw (hr.mono (by decide)) (pa_cons (pv 1) (pa_cons pe_int pa_nil))) pa_nil)) (blkOk_by (N := n_law) (sc := defScope s_law) (by decide +kernel)) (fun _ _ _ _ _ => pg_name (i := 9) sc_law.nd rfl (Or.inl rfl)) (fun _ _ _ _ _ => pts_nil) (fun _ _ _ _ _ => (pe_tup (pa_cons (pe_tup pa_nil) (pa_cons (pe_op (op_repAK (K0 := K) rfl) (pe_tup (pa_cons (pe_tup pa_nil) pa_nil)) (pv 9)) pa_nil)))))
    (pss_cons (ps_set (i := 6) sc_law.nd rfl (Or.inl rfl) (pe_cal C__law_expected_error (hr.mono (by decide)) (pa_cons (pv 2) (pa_cons (pv 3) (pa_cons (pv 4) pa_nil)))))
    (pss_cons (ps_if (pt_cmpR (op_neD hr.units) (pe_cal C__law_raised (hr.mono (by decide)) (pa_cons (pv 2) (pa_cons (pe_callTy (T := "tuple") call_tuple_of (by rfl) m_tuple (by decide +kernel) (pa_cons (pv 3) pa_nil)) (pa_cons (pe_callTy (T := "list") call_list_of (by rfl) m_list (by decide +kernel) (pa_cons (pv 4) pa_nil)) pa_nil)))) (pv 6) (nomark _))
      (pss_one (ps_ret pe_bl))
      pss_nil)
    (pss_cons (ps_if (pt_cmpR op_ne (pe_ix ix_tup (pv 6) pe_int (fun _ _ => rfl)) pe_str (nomark _))
      (pss_one (ps_ret pe_bl))
      pss_nil)
    (pss_cons (ps_set (i := 7) sc_law.nd rfl (Or.inl rfl) (pe_lst (pa_cons (pe_callTy (T := "list") call_list_of (by rfl) m_list (by decide +kernel) (pa_cons (pv 3) pa_nil)) (pa_cons (pe_callTy (T := "list") call_list_of (by rfl) m_list (by decide +kernel) (pa_cons (pv 4) pa_nil)) (pa_cons (pe_callTy (T := "list") call_list_of (by rfl) m_list (by decide +kernel) (pa_cons (pv 5) pa_nil)) pa_nil)))))
    (pss_cons (ps_set (i := 8) sc_law.nd rfl (Or.inl rfl) (pe_makN K_P (hr.mono (by decide)) (pa_cons pe_str (pa_cons (pv 2) (pa_cons (pe_ix ix_list (pv 7) pe_int (fun _ _ => rfl)) (pa_cons (pe_ix ix_list (pv 7) pe_int (fun _ _ => rfl)) (pa_cons (pe_ix ix_list (pv 7) pe_int (fun _ _ => rfl)) pa_nil)))))))
    (pss_cons (ps_for PassesOwn.never rfl (pi_range1 (by rfl) m_range (pa_cons pe_int pa_nil)) (pg_name (i := 9) sc_law.nd rfl (Or.inl rfl))
      (pss_one (ps_expr (pe_bm PySem.F.plainAttrs_list PySem.F.slot_list_append PySem.F.type_list_append mt_append (pe_ix ix_list (pv 7) (pv 9) (fun _ _ => rfl)) (pa_cons pe_str pa_nil)))))
    (pss_cons (ps_if (PW.pt (pw_or (pt_cmpR op_ne (pe_fld (pv 8) rfl) pe_str (nomark _)) (pw_or (pt_cmpR op_ne (pe_fld (pv 8) rfl) (pv 2) (nomark _)) (pw_or1 (pt_not (pt_val (pe_cal C__law_shows (hr.mono (by decide)) (pa_cons (pv 8) (pa_cons (pv 3) (pa_cons (pv 4) (pa_cons (pv 5) pa_nil)))))))))))
      (pss_one (ps_ret pe_bl))
      pss_nil)
    (pss_cons (ps_for PassesOwn.never rfl (pi_list (pe_op op_cat (pe_op op_cat (pv 3) (pv 4)) (pe_lst (pa_cons pe_str pa_nil)))) (pg_name (i := 10) sc_law.nd rfl (Or.inl rfl))
      (pss_one (ps_if (pt_not (pt_val (pe_cal C__law_moves_right (hr.mono (by decide)) (pa_cons (pv 8) (pa_cons (pv 10) (pa_cons (pv 3) (pa_cons (pv 4) (pa_cons (pv 5) pa_nil))))))))
      (pss_one (ps_ret pe_bl))
      pss_nil)))
    (pss_cons (ps_if (pt_not (pt_val (pe_cal C__law_others_right (hr.mono (by decide)) (pa_cons (pv 8) (pa_cons (pv 3) (pa_cons (pv 4) (pa_cons (pv 5) pa_nil)))))))
      (pss_one (ps_ret pe_bl))
      pss_nil)
    (pss_one (ps_ret (pe_and (pe_cmpR op_eq (pe_fld (pv 8) rfl) (pv 2) (nomark _)) (pe_one (pe_cal C__law_shows (hr.mono (by decide)) (pa_cons (pv 8) (pa_cons (pv 3) (pa_cons (pv 4) (pa_cons (pv 5) pa_nil)))))))))))))))))))))))), ?_⟩
    walk_at "rd"
    refine ⟨a, sc, 0, rfl, hs, by decide, fun src n0 c0 nsrc => ?_⟩
    have S0 := same_new nsrc (o := .lst [.int n0, .int c0])
    have hA0 : Src (upd H src (.lst [.int n0, .int c0])) src := ⟨n0, c0, upd_same⟩
    generalize upd H src (.lst [.int n0, .int c0]) = H0 at S0 hA0 ⊢
    walk_at "rd"
    refine plain_of hA0 fun x H1 s1 hA1 hx => ?_
    have S1 := SameBut.same S0 nsrc s1
    walk_at "rd"
    refine draw_of hA1 ⟨by decide, by decide⟩ fun r1 H2 _ _ s2 hA2 => ?_
    have S2 := SameBut.same S1 nsrc s2
    walk_at "rd"
    refine if_asg (fun v H' => ∃ z : Str, v = .str z ∧ OkZ z ∧ Same H H' ∧ Src H' src) rfl (fun _ Z k => ?_) (fun _ => ?_) ?_
    · exact k _ _ ⟨_, rfl, okZ_of (by decide +kernel), S2, hA2⟩
    · exact ⟨x, rfl, ok8 hx, S2, hA2⟩
    rintro _ H3 ⟨nm, rfl, kn, S3, hA3⟩
    clear S0 S1 S2 s1 s2 hA0 hA1 hA2 hx
    walk_at "rd"
    refine ⟨a, sc, 1, rfl, Same.seq S3 hs, by decide, fun src2 n2 c2 nsrc2 => ?_⟩
    have S4 := same_new nsrc2 (o := .lst [.int n2, .int c2])
    have hA4 : Src (upd H3 src2 (.lst [.int n2, .int c2])) src2 := ⟨n2, c2, upd_same⟩
    generalize upd H3 src2 (.lst [.int n2, .int c2]) = H4 at S4 hA4 ⊢
    walk_at "rd"
    refine names_of hA4 fun la sh H5 s5 _ nla hla lsh ks => ?_
    have S5 := SameBut.same S4 nsrc2 s5
    have hA5 := src_same hA3 S5
    have S6 := Same.trans S3 S5
    clear S4 hA4 s5 S5 S3 hA3 nsrc2
    walk_at "rd"
    refine ⟨a, sc, 2, rfl, Same.seq S6 hs, by decide, fun src3 n3 c3 nsrc3 => ?_⟩
    have S4 := same_new nsrc3 (o := .lst [.int n3, .int c3])
    have hA6 : Src (upd H5 src3 (.lst [.int n3, .int c3])) src3 := ⟨n3, c3, upd_same⟩
    generalize upd H5 src3 (.lst [.int n3, .int c3]) = H6 at S4 hA6 ⊢
    walk_at "rd"
    refine names_of hA6 fun lb hd H7 s7 _ nlb hlb lhd kh => ?_
    have S5 := SameBut.same S4 nsrc3 s7
    have hA7 := src_same hA5 S5
    have S7 := Same.trans S6 S5
    have hla7 := S5 _ _ hla
    clear S4 S5 S6 hA5 hA6 s7 nsrc3 hla
    walk_at "rd"
    refine draw_of hA7 ⟨by decide, by decide⟩ fun r2 H8 r20 r21 s8 hA8 => ?_
    have nA : ∀ {G : Hp} {b : Addr} {us : List Str}, G b = some (.lst (us.map V.str)) → Src G src → src ≠ b := fun {G b us} h hs e => by
      obtain ⟨u, v, h2⟩ := hs
      rw [e, h] at h2
      cases us with
      | nil => cases h2
      | cons p t => cases h2
    have hla8 := s8 _ _ (nA hla7 hA7).symm hla7
    have hlb8 := s8 _ _ (nA hlb hA7).symm hlb
    have S8 := SameBut.same S7 nsrc s8
    clear hla7 hlb S7 s8 hA7 nA
    obtain ⟨n, rfl⟩ := Int.eq_ofNat_of_zero_le r20
    have hn : n ≤ 3 := by omega
    walk_at "rd"
    refine ⟨by omega, by omega, fun D nD => ?_⟩
    refine lc_it walk_range (fun i H' => ∃ us, H' D = some (.lst us) ∧ DpAll K H' us (cons i) ∧ us.length = i ∧ Same H8 H') ⟨[], upd_same, .nil, rfl, same_new nD⟩ (fun _ _ _ _ => trivial) ?_ ?_
    · rintro i v H90 H9 hi ⟨us, hD, hda, hul, s9⟩ ⟨rfl, rfl⟩
      have hi3 : i < 3 := by omega
      refine ⟨rfl, ?_⟩
      walk_at "rd"
      refine ⟨Nat.zero_le _, fun t1 nt1 => ?_⟩
      have u1 := same_new nt1 (o := .tup [])
      walk_at "rd"
      refine ⟨Nat.zero_le _, fun t2 nt2 => ?_⟩
      have u2 := same_new nt2 (o := .tup [])
      walk_at "rd"
      refine ⟨sz (by show 1 ≤ 100000; decide), fun t3 nt3 => ?_⟩
      have u3 := same_new nt3 (o := .tup [.ref t2])
      have e1 : (upd (upd (upd H9 t1 (.tup [])) t2 (.tup [])) t3 (.tup [.ref t2])) t1 = some (.tup []) := u3 _ _ (u2 _ _ upd_same)
      have e2 : (upd (upd (upd H9 t1 (.tup [])) t2 (.tup [])) t3 (.tup [.ref t2])) t2 = some (.tup []) := u3 _ _ upd_same
      have e3 : (upd (upd (upd H9 t1 (.tup [])) t2 (.tup [])) t3 (.tup [.ref t2])) t3 = some (.tup [.ref t2]) := upd_same
      have u13 := Same.trans u1 (Same.trans u2 u3)
      generalize upd (upd (upd H9 t1 (.tup [])) t2 (.tup [])) t3 (.tup [.ref t2]) = G at e1 e2 e3 u13 ⊢
      walk_at "rd"
      refine rep_of (k := i) (by omega) (sqt e3) (by simp) (by omega) (by show 1 ≤ 1000; decide) fun r G2 g2 hr2 => ?_
      refine ⟨sz (by show 2 ≤ 100000; decide), fun T nT => ?_⟩
      have u4 := same_new nT (o := .tup [.ref t1, .ref r])
      have sA := Same.trans u13 (Same.trans g2 u4)
      have hD2 := sA _ _ hD
      have eT : (upd G2 T (.tup [.ref t1, .ref r])) T = some (.tup [.ref t1, .ref r]) := upd_same
      have dT : Dp K (upd G2 T (.tup [.ref t1, .ref r])) (.ref T) (conD i) := .tup (sqt eT) (.cons (.tup (sqt (u4 _ _ (g2 _ _ e1))) .nil) (da_one (.tup (Bx.Same.tup u4 hr2) (units_dp (u4 _ _ (g2 _ _ e2)) i))))
      generalize upd G2 T (.tup [.ref t1, .ref r]) = G3 at sA hD2 dT ⊢
      have tk := tk_lst (K := K) (o := .lst (us ++ [.ref T])) hD2
      refine ⟨us, hD2, szl (by omega), us ++ [.ref T], upd_same, ?_, by rw [List.length_append, hul]; rfl, ?_⟩
      · rw [con_succ]
        exact da_app (da_tk tk _ _ (con_td (by omega)) (dpAll_same sA hda)) (da_one (dp_tk tk _ _ (con_d hi3) dT))
      · intro b o hb
        rw [upd_ne (ne_of_none hb nD)]
        exact sA _ _ (s9 _ _ hb)
    rintro H9 ⟨us, hD, hda, hul, s9⟩
    rw [Int.toNat_natCast] at hda hul
    have hla9 := s9 _ _ hla8
    have hlb9 := s9 _ _ hlb8
    clear hla8 hlb8 s9 S8 nD hA8
    walk_at "rd"
    show spExp K _ _ _ _
    unfold spExp
    refine ⟨nm, la, lb, sh, hd, rfl, hla9, hlb9, by omega, by omega, kn, ks, kh, fun r k z H10 s10 nr hr kd => ?_⟩
    walk_at "rd"
    refine ⟨la, _, rfl, .inl ⟨sq (s10 _ _ hla9), fun T nT => ?_⟩⟩
    have sT := same_new nT (o := .tup (sh.map V.str))
    have hT : (upd H10 T (.tup (sh.map V.str))) T = some (.tup (sh.map V.str)) := upd_same
    generalize upd H10 T (.tup (sh.map V.str)) = H11 at sT hT ⊢
    have s11 := Same.trans s10 sT
    walk_at "rd"
    refine ⟨lb, _, rfl, .inl (sq (s11 _ _ hlb9)), fun L nL => ?_⟩
    have sL := same_new nL (o := .lst (hd.map V.str))
    have hL : (upd H11 L (.lst (hd.map V.str))) L = some (.lst (hd.map V.str)) := upd_same
    generalize upd H11 L (.lst (hd.map V.str)) = H12 at sL hL ⊢
    have s12 := Same.trans s11 sL
    walk_at "rd"
    show spRaised K _ _ _ _
    unfold spRaised
    refine ⟨nm, T, L, sh, hd, rfl, .inr (sqt (sL _ _ hT)), .inl (sq hL), by omega, by omega, kn, ks, kh, fun r2 k2 z2 H13 s13 nr2 hr2 kd2 => ?_⟩
    obtain ⟨ek, ez⟩ := kind_one kd2 kd
    subst ek ez
    have s10b := Same.trans sT (Same.trans sL s13)
    have s14 := Same.trans s10 s10b
    have hr13 := s10b _ _ hr
    have lk := kind_lay kd kn ks kh
    walk_at "rd"
    refine ⟨_, _, .tup (sqt hr2) (.cons (.str _) (da_one (.str _))), .tup (sqt hr13) (.cons (.str _) (da_one (.str _))), shape lk (by decide), shape lk (by decide), ?_⟩
    rw [eq_refl lk]
    clear kd2 hr2 nr2 s12 s11 sL sT hT hL nT nL hr nr s10b s13 s10
    walk_at "rd"
    refine ⟨_, _, _, _, rfl, rfl, sqt hr13, atI_nat (j := 0) rfl, ?_⟩
    walk_at "rd"
    refine ite2 (fun h0 => ?_) (fun h0 => ?_)
    · walk_at "rd"
      exact q _
    have ek : k2 = Str.ofString "none" := Decidable.byContradiction fun c => h0 (by
      show (!decide (V.str k2 = V.str (Str.ofString "none"))) = true
      rw [decide_eq_false (fun e => c (V.str.inj e))]
      rfl)
    have g : Good nm sh hd (cons n) := kind_good kd ek kn ks kh (by omega) (con_td hn) (by rw [con_len]; omega)
    clear kd lk h0 hr13 ek
    have hla := s14 _ _ hla9
    have hlb := s14 _ _ hlb9
    have hD13 := s14 _ _ hD
    have hda13 := dpAll_same s14 hda
    clear hla9 hlb9 hD hda s14
    -- what is passed
    walk_at "rd"
    refine ⟨la, _, rfl, .inl (sq hla), fun l1 nl1 => ?_⟩
    have v1 := same_new nl1 (o := .lst (sh.map V.str))
    walk_at "rd"
    refine ⟨lb, _, rfl, .inl (sq (v1 _ _ hlb)), fun l2 nl2 => ?_⟩
    have v2 := same_new nl2 (o := .lst (hd.map V.str))
    walk_at "rd"
    refine ⟨D, _, rfl, .inl (sq (v2 _ _ (v1 _ _ hD13))), fun l3 nl3 => ?_⟩
    have v3 := same_new nl3 (o := .lst us)
    refine ⟨sz (by show 3 ≤ 100000; decide), fun Pl nPl => ?_⟩
    have v4 := same_new nPl (o := .lst [.ref l1, .ref l2, .ref l3])
    have hPl : (upd (upd (upd (upd H13 l1 (.lst (sh.map V.str))) l2 (.lst (hd.map V.str))) l3 (.lst us)) Pl (.lst [.ref l1, .ref l2, .ref l3])) Pl = some (.lst [.ref l1, .ref l2, .ref l3]) := upd_same
    have h1 : (upd (upd (upd (upd H13 l1 (.lst (sh.map V.str))) l2 (.lst (hd.map V.str))) l3 (.lst us)) Pl (.lst [.ref l1, .ref l2, .ref l3])) l1 = some (.lst (sh.map V.str)) := v4 _ _ (v3 _ _ (v2 _ _ upd_same))
    have h2 : (upd (upd (upd (upd H13 l1 (.lst (sh.map V.str))) l2 (.lst (hd.map V.str))) l3 (.lst us)) Pl (.lst [.ref l1, .ref l2, .ref l3])) l2 = some (.lst (hd.map V.str)) := v4 _ _ (v3 _ _ upd_same)
    have h3 : (upd (upd (upd (upd H13 l1 (.lst (sh.map V.str))) l2 (.lst (hd.map V.str))) l3 (.lst us)) Pl (.lst [.ref l1, .ref l2, .ref l3])) l3 = some (.lst us) := v4 _ _ upd_same
    have n12 : l1 ≠ l2 := ne_of_none (upd_same (H := H13)) nl2
    have n13 : l1 ≠ l3 := ne_of_none (v2 _ _ (upd_same (H := H13))) nl3
    have n23 : l2 ≠ l3 := ne_of_none (upd_same (H := upd H13 l1 (.lst (sh.map V.str)))) nl3
    have p1 : Pl ≠ l1 := (ne_of_none (v3 _ _ (v2 _ _ (upd_same (H := H13)))) nPl).symm
    have p2 : Pl ≠ l2 := (ne_of_none (v3 _ _ (upd_same (H := upd H13 l1 (.lst (sh.map V.str))))) nPl).symm
    have p3 : Pl ≠ l3 := (ne_of_none (upd_same (H := upd (upd H13 l1 (.lst (sh.map V.str))) l2 (.lst (hd.map V.str)))) nPl).symm
    have old : ∀ b o, H13 b = some o → b ≠ l1 ∧ b ≠ l2 ∧ b ≠ l3 := fun b o hb => ⟨ne_of_none hb nl1, ne_of_none (v1 _ _ hb) nl2, ne_of_none (v2 _ _ (v1 _ _ hb)) nl3⟩
    have v14 := Same.trans v1 (Same.trans v2 (Same.trans v3 v4))
    clear v1 v2 v3 v4 nl1 nl2 nl3 nPl
    generalize upd (upd (upd (upd H13 l1 (.lst (sh.map V.str))) l2 (.lst (hd.map V.str))) l3 (.lst us)) Pl (.lst [.ref l1, .ref l2, .ref l3]) = H14 at hPl h1 h2 h3 v14 ⊢
    walk_at "rd"
    refine ⟨_, _, _, _, rfl, rfl, sq hPl, atI_nat (j := 0) rfl, ?_⟩
    walk_at "rd"
    refine ⟨_, _, _, _, rfl, rfl, sq hPl, atI_nat (j := 1) rfl, ?_⟩
    walk_at "rd"
    refine ⟨_, _, _, _, rfl, rfl, sq hPl, atI_nat (j := 2) rfl, ?_⟩
    intro p dy np ndy _
    refine mk_of np ndy (.inl (sq h1)) (.inl (sq h2)) (.inl (sq h3)) (dpAll_same v14 hda13) g fun H15 s' t' sH a1 a2 m1 m2 hP => ⟨rfl, ?_⟩
    have q1 : p ≠ l1 := (ne_of_none h1 np).symm
    have q2 : p ≠ l2 := (ne_of_none h2 np).symm
    have q3 : p ≠ l3 := (ne_of_none h3 np).symm
    have v15 := Same.trans v14 sH
    have hPl := sH _ _ hPl
    have h1 := sH _ _ h1
    have h2 := sH _ _ h2
    have h3 := sH _ _ h3
    have hla := v15 _ _ hla
    have hlb := v15 _ _ hlb
    have hD := v15 _ _ hD13
    have hda := dpAll_same v15 hda13
    obtain ⟨ola1, ola2, ola3⟩ := old _ _ ‹H13 la = _›
    obtain ⟨olb1, olb2, olb3⟩ := old _ _ ‹H13 lb = _›
    obtain ⟨oD1, oD2, oD3⟩ := old _ _ hD13
    clear old hD13 hda13 v14 v15 sH np ndy
    walk_at "rd"
    refine ⟨by decide, by decide, for_it walk_range (fun i σ H' => ∃ (o9 o10 : Option V) (x1 x2 x3 : List V), σ = [some (.ref a), some (.ref src), some (.str nm), some (.ref la), some (.ref lb), some (.ref D), some (.ref r), some (.ref Pl), some (.ref p), o9, o10] ∧ H' Pl = some (.lst [V.ref l1, V.ref l2, V.ref l3]) ∧
      H' l1 = some (.lst x1) ∧ H' l2 = some (.lst x2) ∧ H' l3 = some (.lst x3) ∧ x1.length ≤ 10 + i ∧ x2.length ≤ 10 + i ∧ x3.length ≤ 10 + i ∧ Tk K H15 H' ∧ ∀ b o, b ≠ l1 → b ≠ l2 → b ≠ l3 → H15 b = some o → H' b = some o)
      ⟨none, none, _, _, _, rfl, hPl, h1, h2, h3, by rw [List.length_map]; omega, by rw [List.length_map]; omega, by omega, fun _ _ h => h, fun _ _ _ _ _ h => h⟩ (fun _ _ _ _ _ => trivial) ?_ ?_⟩
    · rintro i v σ H160 H16 hi ⟨o9, o10, x1, x2, x3, rfl, k0, k1, k2, k3, e1, e2, e3, tk, kp⟩ ⟨rfl, rfl⟩
      have hi3 : i < 3 := by omega
      rcases (show i = 0 ∨ i = 1 ∨ i = 2 by omega) with rfl | rfl | rfl
      · walk_at "rd"
        refine ⟨_, _, _, _, rfl, rfl, sq k0, atI_nat (j := 0) rfl, ?_⟩
        refine ⟨.inl ⟨rfl, _, sq k1⟩, ?_⟩
        walk_at "rd"
        refine ⟨l1, _, _, rfl, rfl, k1, szl (by omega), ?_⟩
        refine ⟨_, _, x1 ++ [_], x2, x3, rfl, by rw [upd_ne p1]; exact k0, upd_same, by rw [upd_ne n12.symm]; exact k2, by rw [upd_ne n13.symm]; exact k3, by rw [List.length_append]; show x1.length + 1 ≤ _; omega, by omega, by omega, tk.trans (tk_lst k1), fun b o b1 b2 b3 h => by rw [upd_ne b1]; exact kp b o b1 b2 b3 h⟩
      · walk_at "rd"
        refine ⟨_, _, _, _, rfl, rfl, sq k0, atI_nat (j := 1) rfl, ?_⟩
        refine ⟨.inl ⟨rfl, _, sq k2⟩, ?_⟩
        walk_at "rd"
        refine ⟨l2, _, _, rfl, rfl, k2, szl (by omega), ?_⟩
        refine ⟨_, _, x1, x2 ++ [_], x3, rfl, by rw [upd_ne p2]; exact k0, by rw [upd_ne n12]; exact k1, upd_same, by rw [upd_ne n23.symm]; exact k3, by omega, by rw [List.length_append]; show x2.length + 1 ≤ _; omega, by omega, tk.trans (tk_lst k2), fun b o b1 b2 b3 h => by rw [upd_ne b2]; exact kp b o b1 b2 b3 h⟩
      · walk_at "rd"
        refine ⟨_, _, _, _, rfl, rfl, sq k0, atI_nat (j := 2) rfl, ?_⟩
        refine ⟨.inl ⟨rfl, _, sq k3⟩, ?_⟩
        walk_at "rd"
        refine ⟨l3, _, _, rfl, rfl, k3, szl (by omega), ?_⟩
        refine ⟨_, _, x1, x2, x3 ++ [_], rfl, by rw [upd_ne p3]; exact k0, by rw [upd_ne n13]; exact k1, by rw [upd_ne n23]; exact k2, upd_same, by omega, by omega, by rw [List.length_append]; show x3.length + 1 ≤ _; omega, tk.trans (tk_lst k3), fun b o b1 b2 b3 h => by rw [upd_ne b3]; exact kp b o b1 b2 b3 h⟩
    rintro σ H16 ⟨o9, o10, x1, x2, x3, rfl, _, _, _, _, _, _, _, tk, kp⟩
    have hla := kp _ _ ola1 ola2 ola3 hla
    have hlb := kp _ _ olb1 olb2 olb3 hlb
    have hD := kp _ _ oD1 oD2 oD3 hD
    have hda := da_tk tk _ _ (con_td hn) hda
    have hP := hP.mono (con_td hn) (fun o h => kp _ _ q1 q2 q3 h) tk
    have ly := con_ly hn
    clear tk kp h1 h2 h3 hPl
    walk_at "rd"
    obtain ⟨dz, fa, fb, fc, ws, i1, i2, i3, i4, i5⟩ := id hP
    refine ⟨p, C, dz, _, _, rfl, i1, cf.cl, cf.n1, gW _ _ fa fb fc, ?_⟩
    walk_at "rd"
    refine ⟨p, C, dz, _, _, rfl, i1, cf.cl, cf.n2, gN _ _ fa fb fc, ?_⟩
    walk_at "rd"
    refine ite2 (fun h => by simp at h) (fun _ => ?_)
    walk_at "rd"
    refine shows_of hP a1 a2 m1 m2 hla hlb hD hda g ly fun H17 s17 => ?_
    walk_at "rd"
    have hla7 := s17 _ _ hla
    have hlb7 := s17 _ _ hlb
    refine ⟨la, lb, _, _, rfl, rfl, hla7, hlb7, (by rw [List.length_map, List.length_map]; exact sz (by omega)), fun M1 nM1 => ?_⟩
    have w1 := same_new nM1 (o := .lst (sh.map V.str ++ hd.map V.str))
    walk_at "rd"
    refine ⟨sz (by show 1 ≤ 100000; decide), fun M2 nM2 => ?_⟩
    have w2 := same_new nM2 (o := .lst [.str (Str.ofString "nowhere")])
    walk_at "rd"
    refine ⟨M1, M2, _, _, rfl, rfl, w2 _ _ upd_same, upd_same, (by rw [List.length_append, List.length_map, List.length_map]; exact sz (by show sh.length + hd.length + 1 ≤ 100000; omega)), fun M3 nM3 => ?_⟩
    have w3 := same_new nM3 (o := .lst ((sh.map V.str ++ hd.map V.str) ++ [V.str (Str.ofString "nowhere")]))
    have hM3 : (upd (upd (upd H17 M1 (.lst (sh.map V.str ++ hd.map V.str))) M2 (.lst [.str (Str.ofString "nowhere")])) M3 (.lst ((sh.map V.str ++ hd.map V.str) ++ [V.str (Str.ofString "nowhere")]))) M3 = some (.lst ((sh ++ hd ++ [Str.ofString "nowhere"]).map V.str)) := by
      rw [upd_same, List.map_append, List.map_append]
      rfl
    have s18 := Same.trans s17 (Same.trans w1 (Same.trans w2 w3))
    clear w1 w2 w3 nM1 nM2 nM3 hla7 hlb7
    generalize upd (upd (upd H17 M1 (.lst (sh.map V.str ++ hd.map V.str))) M2 (.lst [.str (Str.ofString "nowhere")])) M3 (.lst ((sh.map V.str ++ hd.map V.str) ++ [V.str (Str.ofString "nowhere")])) = H18 at hM3 s18 ⊢
    refine ⟨M3, rfl, ⟨_, sq hM3⟩, for_list (K := K) (a := M3) (xs := (sh ++ hd ++ [Str.ofString "nowhere"]).map V.str) (fun i σ H' => ∃ (o9 o10 : Option V), σ = [some (.ref a), some (.ref src), some (.str nm), some (.ref la), some (.ref lb), some (.ref D), some (.ref r), some (.ref Pl), some (.ref p), o9, o10] ∧ Same H18 H')
      ⟨_, _, rfl, Same.refl _⟩ (fun i σ H' _ ⟨_, _, _, e⟩ => sq (e _ _ hM3)) ?_ ?_⟩
    · rintro i v σ H19 hx ⟨o9, o10, rfl, s19⟩
      obtain ⟨z, hz, rfl⟩ := at_map hx
      have kz : OkZ z := by
        rcases List.mem_append.mp (List.mem_of_getElem? hz) with h | h
        · exact (List.mem_append.mp h).elim (ks z) (kh z)
        · rw [List.mem_singleton.mp h]
          exact okZ_of (by decide +kernel)
      have sA := Same.trans s18 s19
      walk_at "rd"
      show spMoves K C _ _ _ _
      unfold spMoves
      refine ⟨p, la, lb, D, z, _, nm, s', t', sh, hd, us, cons n, rfl, hP.same sA, a1, a2, m1, m2, sA _ _ hla, sA _ _ hlb, sA _ _ hD, dpAll_same sA hda, g, ly, kz, fun H20 s20 => ?_⟩
      walk_at "rd"
      exact ⟨_, _, rfl, Same.trans s19 s20⟩
    rintro σ H19 ⟨o9, o10, rfl, s19⟩
    have sA := Same.trans s18 s19
    walk_at "rd"
    show spOthers K C _ _ _ _
    unfold spOthers
    refine ⟨p, la, lb, D, _, nm, s', t', sh, hd, us, cons n, rfl, hP.same sA, a1, a2, m1, m2, sA _ _ hla, sA _ _ hlb, sA _ _ hD, dpAll_same sA hda, g, ly, by rw [con_len]; omega, fun H20 s20 => ?_⟩
    have sB := Same.trans sA s20
    walk_at "rd"
    refine ⟨p, C, dz, _, _, rfl, sB _ _ i1, cf.cl, cf.n2, gN _ _ fa fb fc, ?_⟩
    walk_at "rd"
    rw [decide_eq_true (rfl : V.str nm = V.str nm)]
    walk_at "rd"
    exact shows_of (hP.same sB) a1 a2 m1 m2 (sB _ _ hla) (sB _ _ hlb) (sB _ _ hD) (dpAll_same sB hda) g ly fun H21 _ => q _
end
end K02
namespace K02
open PySem PySem.Spec PyProof.Rows L2 Bx TL Dx Zx Ow Sup Er NdefX Px
theorem kit_t {K : PySem.W.Frag} {C D : Addr} {cd : ClassData} (c : PySem.W.clsIn K D = some cd) (t : PySem.W.typeIn K (.ref D) = some (.type "type")) (s : PySem.W.subIn K (.ref C) (.ref D) = some true) : PySem.W.kitOne K (.ref C) (.ref D) = some true := by
  unfold PySem.W.kitOne PySem.W.kitCls
  split
  · rfl
  · show (if ((PySem.W.clsIn K D).isSome && PySem.W.typeIn K (.ref D) == some (.type "type")) = true then PySem.W.subIn K (.ref C) (.ref D) else none) = _
    rw [if_pos (by rw [c, t]; rfl)]
    exact s
theorem kit_f {K : PySem.W.Frag} {C D : Addr} {cd : ClassData} (ss : PySem.W.subIn K (.ref C) (.ref C) = some true) (c : PySem.W.clsIn K D = some cd) (t : PySem.W.typeIn K (.ref D) = some (.type "type")) (s : PySem.W.subIn K (.ref C) (.ref D) = some false) : PySem.W.kitOne K (.ref C) (.ref D) = some false := by
  unfold PySem.W.kitOne PySem.W.kitCls
  split
  · rename_i h
    have e : Value.ref C = Value.ref D := eq_of_beq h
    rw [← e, ss] at s
    cases s
  · show (if ((PySem.W.clsIn K D).isSome && PySem.W.typeIn K (.ref D) == some (.type "type")) = true then PySem.W.subIn K (.ref C) (.ref D) else none) = _
    rw [if_pos (by rw [c, t]; rfl)]
    exact s
theorem kit_exm {K : PySem.W.Frag} {C : Addr} {cd : ClassData} (b : PySem.W.subIn K (.ref C) (.type "BaseException") = some true) (c : PySem.W.clsIn K C = some cd) (t : PySem.W.typeIn K (.ref C) = some (.type "type")) (s : PySem.W.subIn K (.ref C) (.ref C) = some true) : PySem.W.exmOne K (.ref C) (.ref C) = some true := by
  show (if (PySem.W.subIn K (.ref C) (.type "BaseException") == some true) = true then (if ((PySem.W.clsIn K C).isSome && PySem.W.typeIn K (.ref C) == some (.type "type")) = true then PySem.W.subIn K (.ref C) (.ref C) else none) else none) = _
  rw [if_pos (by rw [b]; rfl), if_pos (by rw [c, t]; rfl)]
  exact s
theorem kit_v {K : PySem.W.Frag} {C : Addr} (s : PySem.W.subIn K (.ref C) (.type "ValueError") = some true) : PySem.W.kitOne K (.ref C) (.type "ValueError") = some true := by
  unfold PySem.W.kitOne PySem.W.kitCls
  split
  · rfl
  · show (if PySem.W.kitMeta "ValueError" = true then PySem.W.subIn K (.ref C) (.type "ValueError") else none) = _
    rw [if_pos (by decide +kernel)]
    exact s
theorem exm_f {K : PySem.W.Frag} {C D : Addr} {cd : ClassData} (b : PySem.W.subIn K (.ref D) (.type "BaseException") = some true) (c : PySem.W.clsIn K D = some cd) (t : PySem.W.typeIn K (.ref D) = some (.type "type")) (s : PySem.W.subIn K (.ref C) (.ref D) = some false) : PySem.W.exmOne K (.ref C) (.ref D) = some false := by
  show (if (PySem.W.subIn K (.ref D) (.type "BaseException") == some true) = true then (if ((PySem.W.clsIn K D).isSome && PySem.W.typeIn K (.ref D) == some (.type "type")) = true then PySem.W.subIn K (.ref C) (.ref D) else none) else none) = _
  rw [if_pos (by rw [b]; rfl), if_pos (by rw [c, t]; rfl)]
  exact s
theorem cread_mk {K : PySem.W.Frag} {C : Addr} (a : PySem.W.nsIn K cStatics "thirdparty.any" = some none) (t : PySem.W.typeIn K (.ref C) = some (.type "type")) (ga : PySem.W.findIn K (.type "type") "__getattribute__" = some (some (.builtin "type.__getattribute__"))) (s : PySem.W.subIn K (.type "type") (.type "type") = some true) : ClX.CRead K C (.type "type") := by
  refine ⟨?_, ?_⟩
  · unfold PySem.W.readsIn
    rw [a, t, ga, s]
    rfl
  · unfold PySem.W.specialIn
    rw [t]
    exact ga
theorem cmet_mk {K : PySem.W.Frag} {C p : Addr} {m : Str} (tm : PySem.W.findIn K (.type "type") m = some none) (cb : PySem.W.findIn K (.ref C) m = some (some (.ref p))) (tb : PySem.W.typeIn K (.ref p) = some (.type "classmethod")) (sb : PySem.W.specialIn K (.ref p) "__get__" = some (some (.builtin "classmethod.__get__")))
    (hu : PySem.Builtin.heldUnderItsOwnName m (.ref p) = false) : PySem.W.findCls K (.ref C) (.type "type") m = some (.get (.builtin "classmethod.__get__") (.ref p) .none (.ref C)) := by
  unfold PySem.W.findCls
  rw [tm]
  simp only [Option.bind_some, cb, hu, tb, sb, Bool.false_eq_true, if_false]
  rfl
set_option maxHeartbeats 4000000 in
theorem all_mk {l : PySem.W.OpenLaw} {w : World} {K : PySem.W.Frag} {h : Heap} {mg : Str → Option Value} {fa : Addr} (X : K.In h) (G : h.Ns mainGlobals mg) (hfa : mg "law" = some (.ref fa))
    {C CN CP SE : Addr} {cdS : ClassData} {i_fo i_ro : Option Value} {p_bare : Addr} {rs_bare : List Value}
    {fIN ccN cdaN : Addr} {ocN kVN dcN pmN ctN clN cclN : Value} {odN anN cldN cddN : Option Addr} {oslN cslN ccsN : Array (Option Value)} {vsN : Array Value} {fileN : Str} {tfN : Tok} {nmN qN : Str} {AN : Addr} {bsN bmN : List Value} {snN : List Str} {subN : List Value} {abN : Bool} {colN : Option Bool} {ddN : Option Addr} {k0N k1N k2N k3N k5N : Option Value} {cdN : ClassData}
    {fIP ccP cdaP : Addr} {ocP kVP dcP pmP ctP clP cclP : Value} {odP anP cldP cddP : Option Addr} {oslP cslP ccsP : Array (Option Value)} {vsP : Array Value} {fileP : Str} {tfP : Tok} {nmP qP : Str} {AP : Addr} {bsP bmP : List Value} {snP : List Str} {subP : List Value} {abP : Bool} {colP : Option Bool} {ddP : Option Addr} {k0P k1P k2P k3P k5P : Option Value} {cdP : ClassData}
    {p_names : Addr} {rs_names : List Value}
    {f_pnames : Addr} {oc_pnames kV_pnames dc_pnames pm_pnames cd_pnames ct_pnames : Value} {od_pnames an_pnames : Option Addr} {sl_pnames : Array (Option Value)}
    {p_theory : Addr} {rs_theory : List Value}
    {f_ptheory : Addr} {oc_ptheory kV_ptheory dc_ptheory pm_ptheory cd_ptheory ct_ptheory : Value} {od_ptheory an_ptheory : Option Addr} {sl_ptheory : Array (Option Value)}
    {f_bare : Addr} {oc_bare kV_bare dc_bare pm_bare cd_bare ct_bare : Value} {od_bare an_bare : Option Addr} {sl_bare : Array (Option Value)}
    {f_init : Addr} {oc_init kV_init dc_init pm_init cd_init ct_init : Value} {od_init an_init : Option Addr} {sl_init : Array (Option Value)}
    {f_M__len__ : Addr} {oc_M__len__ kV_M__len__ dc_M__len__ pm_M__len__ cd_M__len__ ct_M__len__ : Value} {od_M__len__ an_M__len__ : Option Addr} {sl_M__len__ : Array (Option Value)}
    {f_M__contains__ : Addr} {oc_M__contains__ kV_M__contains__ dc_M__contains__ pm_M__contains__ cd_M__contains__ ct_M__contains__ : Value} {od_M__contains__ an_M__contains__ : Option Addr} {sl_M__contains__ : Array (Option Value)}
    {f_M__iter__ : Addr} {oc_M__iter__ kV_M__iter__ dc_M__iter__ pm_M__iter__ cd_M__iter__ ct_M__iter__ : Value} {od_M__iter__ an_M__iter__ : Option Addr} {sl_M__iter__ : Array (Option Value)}
    {f_M__sub__ : Addr} {oc_M__sub__ kV_M__sub__ dc_M__sub__ pm_M__sub__ cd_M__sub__ ct_M__sub__ : Value} {od_M__sub__ an_M__sub__ : Option Addr} {sl_M__sub__ : Array (Option Value)}
    {f_Mreveal : Addr} {oc_Mreveal kV_Mreveal dc_Mreveal pm_Mreveal cd_Mreveal ct_Mreveal : Value} {od_Mreveal an_Mreveal : Option Addr} {sl_Mreveal : Array (Option Value)}
    {f_Mwith_constraints : Addr} {oc_Mwith_constraints kV_Mwith_constraints dc_Mwith_constraints pm_Mwith_constraints cd_Mwith_constraints ct_Mwith_constraints : Value} {od_Mwith_constraints an_Mwith_constraints : Option Addr} {sl_Mwith_constraints : Array (Option Value)}
    {f_Mcalled : Addr} {oc_Mcalled kV_Mcalled dc_Mcalled pm_Mcalled cd_Mcalled ct_Mcalled : Value} {od_Mcalled an_Mcalled : Option Addr} {sl_Mcalled : Array (Option Value)}
    {f_is_name : Addr} {oc_is_name kV_is_name dc_is_name pm_is_name cd_is_name ct_is_name : Value} {od_is_name an_is_name : Option Addr} {sl_is_name : Array (Option Value)}
    {f_is_full_name : Addr} {oc_is_full_name kV_is_full_name dc_is_full_name pm_is_full_name cd_is_full_name ct_is_full_name : Value} {od_is_full_name an_is_full_name : Option Addr} {sl_is_full_name : Array (Option Value)}
    {f_merge_names : Addr} {oc_merge_names kV_merge_names dc_merge_names pm_merge_names cd_merge_names ct_merge_names : Value} {od_merge_names an_merge_names : Option Addr} {sl_merge_names : Array (Option Value)}
    {f__check_names : Addr} {oc__check_names kV__check_names dc__check_names pm__check_names cd__check_names ct__check_names : Value} {od__check_names an__check_names : Option Addr} {sl__check_names : Array (Option Value)}
    {f__check_single : Addr} {oc__check_single kV__check_single dc__check_single pm__check_single cd__check_single ct__check_single : Value} {od__check_single an__check_single : Option Addr} {sl__check_single : Array (Option Value)}
    {f__law_source : Addr} {oc__law_source kV__law_source dc__law_source pm__law_source cd__law_source ct__law_source : Value} {od__law_source an__law_source : Option Addr} {sl__law_source : Array (Option Value)}
    {f__law_draw : Addr} {oc__law_draw kV__law_draw dc__law_draw pm__law_draw cd__law_draw ct__law_draw : Value} {od__law_draw an__law_draw : Option Addr} {sl__law_draw : Array (Option Value)}
    {f__law_plain : Addr} {oc__law_plain kV__law_plain dc__law_plain pm__law_plain cd__law_plain ct__law_plain : Value} {od__law_plain an__law_plain : Option Addr} {sl__law_plain : Array (Option Value)}
    {f__law_names : Addr} {oc__law_names kV__law_names dc__law_names pm__law_names cd__law_names ct__law_names : Value} {od__law_names an__law_names : Option Addr} {sl__law_names : Array (Option Value)}
    {f__law_is_name : Addr} {oc__law_is_name kV__law_is_name dc__law_is_name pm__law_is_name cd__law_is_name ct__law_is_name : Value} {od__law_is_name an__law_is_name : Option Addr} {sl__law_is_name : Array (Option Value)}
    {f__law_is_full : Addr} {oc__law_is_full kV__law_is_full dc__law_is_full pm__law_is_full cd__law_is_full ct__law_is_full : Value} {od__law_is_full an__law_is_full : Option Addr} {sl__law_is_full : Array (Option Value)}
    {f__law_expected_error : Addr} {oc__law_expected_error kV__law_expected_error dc__law_expected_error pm__law_expected_error cd__law_expected_error ct__law_expected_error : Value} {od__law_expected_error an__law_expected_error : Option Addr} {sl__law_expected_error : Array (Option Value)}
    {f__law_raised : Addr} {oc__law_raised kV__law_raised dc__law_raised pm__law_raised cd__law_raised ct__law_raised : Value} {od__law_raised an__law_raised : Option Addr} {sl__law_raised : Array (Option Value)}
    {f__law_shows : Addr} {oc__law_shows kV__law_shows dc__law_shows pm__law_shows cd__law_shows ct__law_shows : Value} {od__law_shows an__law_shows : Option Addr} {sl__law_shows : Array (Option Value)}
    {f__law_hides : Addr} {oc__law_hides kV__law_hides dc__law_hides pm__law_hides cd__law_hides ct__law_hides : Value} {od__law_hides an__law_hides : Option Addr} {sl__law_hides : Array (Option Value)}
    {f__law_reveals : Addr} {oc__law_reveals kV__law_reveals dc__law_reveals pm__law_reveals cd__law_reveals ct__law_reveals : Value} {od__law_reveals an__law_reveals : Option Addr} {sl__law_reveals : Array (Option Value)}
    {f__law_moves_right : Addr} {oc__law_moves_right kV__law_moves_right dc__law_moves_right pm__law_moves_right cd__law_moves_right ct__law_moves_right : Value} {od__law_moves_right an__law_moves_right : Option Addr} {sl__law_moves_right : Array (Option Value)}
    {f__law_others_right : Addr} {oc__law_others_right kV__law_others_right dc__law_others_right pm__law_others_right cd__law_others_right ct__law_others_right : Value} {od__law_others_right an__law_others_right : Option Addr} {sl__law_others_right : Array (Option Value)}
    {f_law : Addr} {oc_law kV_law dc_law pm_law cd_law ct_law : Value} {od_law an_law : Option Addr} {sl_law : Array (Option Value)}
    {t_LONGEST : Tok}
    {t_LETTERS : Tok}
    {t_LETTERS_AND_DIGITS : Tok}
    (aC : PySem.W.nsIn K mainGlobals "Part" = some (some (.ref C)))
    (aS : PySem.W.nsIn K mainGlobals "ShadowError" = some (some (.ref SE)))
    (pg : PySem.W.plainGet K C Str.empty = true)
    (hd : PySem.W.hasDictIn K C = true)
    (po : PySem.W.plainOver K C = true)
    (sa : PySem.W.findIn K (.ref C) "__setattr__" = some (some (.builtin "object.__setattr__")))
    (mk : PySem.W.makesIn K C = true)
    (kc : PySem.W.keepIn K (.ref C) = true)
    (n1 : PySem.W.findIn K (.ref C) "word" = some none)
    (n2 : PySem.W.findIn K (.ref C) "name" = some none)
    (n3 : PySem.W.findIn K (.ref C) "shown" = some none)
    (n4 : PySem.W.findIn K (.ref C) "hidden" = some none)
    (n5 : PySem.W.findIn K (.ref C) "constraints" = some none)
    (hf1 : PySem.W.selfFirst K C = true)
    (i1 : PySem.W.findIn K (.type "str") "__sub__" = some i_fo)
    (i2 : PySem.W.findIn K (.type "str") "__rsub__" = some i_ro)
    (i3 : PySem.W.findIn K (.ref C) "__rsub__" = some none)
    (hsb2 : PySem.W.subIn K (.type "str") (.ref C) = some false)
    (p_top : (l.prog.main.scope.names.lookup ("super" : Str)).isSome = false)
    (z_super : PySem.W.nsIn K mainGlobals "super" = some none)
    (any_ : PySem.W.nsIn K cStatics "thirdparty.any" = some none)
    (sp_ : PySem.W.specialIn K (.builtin "object.__class__") "__get__" = some (some (.builtin "getset_descriptor.__get__")))
    (tk_ : PySem.W.takesIn K (.builtin "object.__class__") = some true)
    (clS : PySem.W.clsIn K SE = some cdS)
    (tS : PySem.W.typeIn K (.ref SE) = some (.type "type"))
    (a_CN : PySem.W.nsIn K mainGlobals "InvalidName" = some (some (.ref CN)))
    (l_CN : K.lookup CN = some (excClassObj nmN qN CN AN bsN bmN true snN subN abN colN ddN k0N k1N k2N k3N k5N "ValueError.__new__"))
    (r_CN : PySem.HandSPX.refsVE bmN = true)
    (cd_CN : PySem.W.clsIn K CN = some cdN)
    (sa_CN : PySem.W.findIn K (.ref CN) "__setattr__" = some (some (.builtin "object.__setattr__")))
    (ex_CN : PySem.W.subIn K (.ref CN) (.type "BaseException") = some true)
    (ty_CN : PySem.W.typeIn K (.ref CN) = some (.type "type"))
    (kp_CN : PySem.W.keepIn K (.ref CN) = true)
    (i_CN : PySem.W.findIn K (.ref CN) "__init__" = some (some (.ref fIN)))
    (t_fIN : PySem.W.typeIn K (.ref fIN) = some (.type "function"))
    (l_fIN : K.lookup fIN = some ⟨ocN, odN, .func (PySem.W.fnX "__init__" "InvalidName.__init__" (defArgs s_InvalidName___init__) (defBody s_InvalidName___init__) (defScope s_InvalidName___init__) [(("__class__" : Str), ccN)] .none kVN dcN pmN anN (.ref cdaN) ctN), oslN⟩)
    (c_fIN : PySem.W.codeIn K (.ref cdaN) "InvalidName.__init__" = true)
    (l_ccN : K.lookup ccN = some ⟨clN, cldN, .cell (some (.ref CN)), cslN⟩)
    (l_cdaN : K.lookup cdaN = some ⟨cclN, cddN, .fields vsN, ccsN⟩)
    (v_cdaN : vsN[2]? = some (.str fileN tfN))
    (p_fileN : ((l.prog.main.file : Str) == fileN) = true)
    (m_CN : PySem.W.mroIn K CN (.ref CN) = some true)
    (s_CN : PySem.W.ks_superIn K CN CN "__init__" = some (some (.builtin "ValueError.__init__")))
    (v_CN : PySem.W.subIn K (.ref CN) (.type "ValueError") = some true)
    (no_CN : PySem.W.findIn K (.ref CN) "name" = some none)
    (ss_CN : PySem.W.subIn K (.ref CN) (.ref CN) = some true)
    (ga_CN : PySem.W.findIn K (.ref CN) "__getattribute__" = some (some (.builtin "BaseException.__getattribute__")))
    (gg_CN : PySem.W.findIn K (.ref CN) "__getattr__" = some none)
    (hd_CN : PySem.W.hasDictIn K CN = true)
    (gc_CN : PySem.W.findIn K (.ref CN) "__class__" = some (some (.builtin "object.__class__")))
    (mo_CN : PySem.W.mroIn K CN (.type "object") = some true)
    (su_SN : PySem.W.subIn K (.ref CN) (.ref SE) = some true)
    (a_CP : PySem.W.nsIn K mainGlobals "InvalidPart" = some (some (.ref CP)))
    (l_CP : K.lookup CP = some (excClassObj nmP qP CP AP bsP bmP true snP subP abP colP ddP k0P k1P k2P k3P k5P "ValueError.__new__"))
    (r_CP : PySem.HandSPX.refsVE bmP = true)
    (cd_CP : PySem.W.clsIn K CP = some cdP)
    (sa_CP : PySem.W.findIn K (.ref CP) "__setattr__" = some (some (.builtin "object.__setattr__")))
    (ex_CP : PySem.W.subIn K (.ref CP) (.type "BaseException") = some true)
    (ty_CP : PySem.W.typeIn K (.ref CP) = some (.type "type"))
    (kp_CP : PySem.W.keepIn K (.ref CP) = true)
    (i_CP : PySem.W.findIn K (.ref CP) "__init__" = some (some (.ref fIP)))
    (t_fIP : PySem.W.typeIn K (.ref fIP) = some (.type "function"))
    (l_fIP : K.lookup fIP = some ⟨ocP, odP, .func (PySem.W.fnX "__init__" "InvalidPart.__init__" (defArgs s_InvalidPart___init__) (defBody s_InvalidPart___init__) (defScope s_InvalidPart___init__) [(("__class__" : Str), ccP)] .none kVP dcP pmP anP (.ref cdaP) ctP), oslP⟩)
    (c_fIP : PySem.W.codeIn K (.ref cdaP) "InvalidPart.__init__" = true)
    (l_ccP : K.lookup ccP = some ⟨clP, cldP, .cell (some (.ref CP)), cslP⟩)
    (l_cdaP : K.lookup cdaP = some ⟨cclP, cddP, .fields vsP, ccsP⟩)
    (v_cdaP : vsP[2]? = some (.str fileP tfP))
    (p_fileP : ((l.prog.main.file : Str) == fileP) = true)
    (m_CP : PySem.W.mroIn K CP (.ref CP) = some true)
    (s_CP : PySem.W.ks_superIn K CP CP "__init__" = some (some (.builtin "ValueError.__init__")))
    (v_CP : PySem.W.subIn K (.ref CP) (.type "ValueError") = some true)
    (no_CP : PySem.W.findIn K (.ref CP) "name" = some none)
    (ss_CP : PySem.W.subIn K (.ref CP) (.ref CP) = some true)
    (ga_CP : PySem.W.findIn K (.ref CP) "__getattribute__" = some (some (.builtin "BaseException.__getattribute__")))
    (gg_CP : PySem.W.findIn K (.ref CP) "__getattr__" = some none)
    (hd_CP : PySem.W.hasDictIn K CP = true)
    (gc_CP : PySem.W.findIn K (.ref CP) "__class__" = some (some (.builtin "object.__class__")))
    (mo_CP : PySem.W.mroIn K CP (.type "object") = some true)
    (su_SP : PySem.W.subIn K (.ref CP) (.ref SE) = some true)
    (su_NP : PySem.W.subIn K (.ref CN) (.ref CP) = some false)
    (su_PN : PySem.W.subIn K (.ref CP) (.ref CN) = some false)
    (ap_names : PySem.W.findIn K (.ref C) "names" = some (some (.ref p_names)))
    (sp_names : PySem.W.specialIn K (.ref p_names) "__get__" = some (some (.builtin "property.__get__")))
    (tk_names : PySem.W.takesIn K (.ref p_names) = some true)
    (rc_names : PySem.W.recIn K p_names "property" = some (.ref f_pnames :: rs_names))
    (l_pnames : K.lookup f_pnames = some ⟨oc_pnames, od_pnames, .func (PySem.W.fnOf "names" "Part.names" (defArgs s_Part_names) (defBody s_Part_names) (defScope s_Part_names) .none kV_pnames dc_pnames pm_pnames an_pnames cd_pnames ct_pnames), sl_pnames⟩) (c_pnames : PySem.W.codeIn K cd_pnames "Part.names" = true) (k_pnames : PySem.W.keepIn K (.ref f_pnames) = true)
    (ap_theory : PySem.W.findIn K (.ref C) "theory" = some (some (.ref p_theory)))
    (sp_theory : PySem.W.specialIn K (.ref p_theory) "__get__" = some (some (.builtin "property.__get__")))
    (tk_theory : PySem.W.takesIn K (.ref p_theory) = some true)
    (rc_theory : PySem.W.recIn K p_theory "property" = some (.ref f_ptheory :: rs_theory))
    (l_ptheory : K.lookup f_ptheory = some ⟨oc_ptheory, od_ptheory, .func (PySem.W.fnOf "theory" "Part.theory" (defArgs s_Part_theory) (defBody s_Part_theory) (defScope s_Part_theory) .none kV_ptheory dc_ptheory pm_ptheory an_ptheory cd_ptheory ct_ptheory), sl_ptheory⟩) (c_ptheory : PySem.W.codeIn K cd_ptheory "Part.theory" = true) (k_ptheory : PySem.W.keepIn K (.ref f_ptheory) = true)
    (tyC : PySem.W.typeIn K (.ref C) = some (.type "type"))
    (tga : PySem.W.findIn K (.type "type") "__getattribute__" = some (some (.builtin "type.__getattribute__")))
    (tsub : PySem.W.subIn K (.type "type") (.type "type") = some true)
    (tma : PySem.W.findIn K (.type "type") "bare" = some none)
    (cb : PySem.W.findIn K (.ref C) "bare" = some (some (.ref p_bare)))
    (tyb : PySem.W.typeIn K (.ref p_bare) = some (.type "classmethod"))
    (spb : PySem.W.specialIn K (.ref p_bare) "__get__" = some (some (.builtin "classmethod.__get__")))
    (rcb : PySem.W.recIn K p_bare "classmethod" = some (.ref f_bare :: rs_bare))
    (fib : PySem.W.fnIn K f_bare = true)
    (l_bare : K.lookup f_bare = some ⟨oc_bare, od_bare, .func (PySem.W.fnOf "bare" "Part.bare" (defArgs s_Part_bare) (defBody s_Part_bare) (defScope s_Part_bare) .none kV_bare dc_bare pm_bare an_bare cd_bare ct_bare), sl_bare⟩) (c_bare : PySem.W.codeIn K cd_bare "Part.bare" = true) (k_bare : PySem.W.keepIn K (.ref f_bare) = true)
    (a_init : PySem.W.findIn K (.ref C) "__init__" = some (some (.ref f_init))) (l_init : K.lookup f_init = some ⟨oc_init, od_init, .func (PySem.W.fnOf "__init__" "Part.__init__" (defArgs s_Part___init__) (defBody s_Part___init__) (defScope s_Part___init__) .none kV_init dc_init pm_init an_init cd_init ct_init), sl_init⟩) (c_init : PySem.W.codeIn K cd_init "Part.__init__" = true) (k_init : PySem.W.keepIn K (.ref f_init) = true)
    (fi_init : PySem.W.isFn K (.ref f_init) = true)
    (a_M__len__ : PySem.W.findIn K (.ref C) "__len__" = some (some (.ref f_M__len__))) (l_M__len__ : K.lookup f_M__len__ = some ⟨oc_M__len__, od_M__len__, .func (PySem.W.fnOf "__len__" "Part.__len__" (defArgs s_Part___len__) (defBody s_Part___len__) (defScope s_Part___len__) .none kV_M__len__ dc_M__len__ pm_M__len__ an_M__len__ cd_M__len__ ct_M__len__), sl_M__len__⟩) (c_M__len__ : PySem.W.codeIn K cd_M__len__ "Part.__len__" = true) (k_M__len__ : PySem.W.keepIn K (.ref f_M__len__) = true)
    (i_M__len__ : PySem.W.isFn K (.ref f_M__len__) = true)
    (a_M__contains__ : PySem.W.findIn K (.ref C) "__contains__" = some (some (.ref f_M__contains__))) (l_M__contains__ : K.lookup f_M__contains__ = some ⟨oc_M__contains__, od_M__contains__, .func (PySem.W.fnOf "__contains__" "Part.__contains__" (defArgs s_Part___contains__) (defBody s_Part___contains__) (defScope s_Part___contains__) .none kV_M__contains__ dc_M__contains__ pm_M__contains__ an_M__contains__ cd_M__contains__ ct_M__contains__), sl_M__contains__⟩) (c_M__contains__ : PySem.W.codeIn K cd_M__contains__ "Part.__contains__" = true) (k_M__contains__ : PySem.W.keepIn K (.ref f_M__contains__) = true)
    (i_M__contains__ : PySem.W.isFn K (.ref f_M__contains__) = true)
    (a_M__iter__ : PySem.W.findIn K (.ref C) "__iter__" = some (some (.ref f_M__iter__))) (l_M__iter__ : K.lookup f_M__iter__ = some ⟨oc_M__iter__, od_M__iter__, .func (PySem.W.fnOf "__iter__" "Part.__iter__" (defArgs s_Part___iter__) (defBody s_Part___iter__) (defScope s_Part___iter__) .none kV_M__iter__ dc_M__iter__ pm_M__iter__ an_M__iter__ cd_M__iter__ ct_M__iter__), sl_M__iter__⟩) (c_M__iter__ : PySem.W.codeIn K cd_M__iter__ "Part.__iter__" = true) (k_M__iter__ : PySem.W.keepIn K (.ref f_M__iter__) = true)
    (i_M__iter__ : PySem.W.isFn K (.ref f_M__iter__) = true)
    (a_M__sub__ : PySem.W.findIn K (.ref C) "__sub__" = some (some (.ref f_M__sub__))) (l_M__sub__ : K.lookup f_M__sub__ = some ⟨oc_M__sub__, od_M__sub__, .func (PySem.W.fnOf "__sub__" "Part.__sub__" (defArgs s_Part___sub__) (defBody s_Part___sub__) (defScope s_Part___sub__) .none kV_M__sub__ dc_M__sub__ pm_M__sub__ an_M__sub__ cd_M__sub__ ct_M__sub__), sl_M__sub__⟩) (c_M__sub__ : PySem.W.codeIn K cd_M__sub__ "Part.__sub__" = true) (k_M__sub__ : PySem.W.keepIn K (.ref f_M__sub__) = true)
    (i_M__sub__ : PySem.W.isFn K (.ref f_M__sub__) = true)
    (a_Mreveal : PySem.W.findIn K (.ref C) "reveal" = some (some (.ref f_Mreveal))) (l_Mreveal : K.lookup f_Mreveal = some ⟨oc_Mreveal, od_Mreveal, .func (PySem.W.fnOf "reveal" "Part.reveal" (defArgs s_Part_reveal) (defBody s_Part_reveal) (defScope s_Part_reveal) .none kV_Mreveal dc_Mreveal pm_Mreveal an_Mreveal cd_Mreveal ct_Mreveal), sl_Mreveal⟩) (c_Mreveal : PySem.W.codeIn K cd_Mreveal "Part.reveal" = true) (k_Mreveal : PySem.W.keepIn K (.ref f_Mreveal) = true)
    (i_Mreveal : PySem.W.isFn K (.ref f_Mreveal) = true)
    (a_Mwith_constraints : PySem.W.findIn K (.ref C) "with_constraints" = some (some (.ref f_Mwith_constraints))) (l_Mwith_constraints : K.lookup f_Mwith_constraints = some ⟨oc_Mwith_constraints, od_Mwith_constraints, .func (PySem.W.fnOf "with_constraints" "Part.with_constraints" (defArgs s_Part_with_constraints) (defBody s_Part_with_constraints) (defScope s_Part_with_constraints) .none kV_Mwith_constraints dc_Mwith_constraints pm_Mwith_constraints an_Mwith_constraints cd_Mwith_constraints ct_Mwith_constraints), sl_Mwith_constraints⟩) (c_Mwith_constraints : PySem.W.codeIn K cd_Mwith_constraints "Part.with_constraints" = true) (k_Mwith_constraints : PySem.W.keepIn K (.ref f_Mwith_constraints) = true)
    (i_Mwith_constraints : PySem.W.isFn K (.ref f_Mwith_constraints) = true)
    (a_Mcalled : PySem.W.findIn K (.ref C) "called" = some (some (.ref f_Mcalled))) (l_Mcalled : K.lookup f_Mcalled = some ⟨oc_Mcalled, od_Mcalled, .func (PySem.W.fnOf "called" "Part.called" (defArgs s_Part_called) (defBody s_Part_called) (defScope s_Part_called) .none kV_Mcalled dc_Mcalled pm_Mcalled an_Mcalled cd_Mcalled ct_Mcalled), sl_Mcalled⟩) (c_Mcalled : PySem.W.codeIn K cd_Mcalled "Part.called" = true) (k_Mcalled : PySem.W.keepIn K (.ref f_Mcalled) = true)
    (i_Mcalled : PySem.W.isFn K (.ref f_Mcalled) = true)
    (a_is_name : PySem.W.nsIn K mainGlobals "is_name" = some (some (.ref f_is_name))) (l_is_name : K.lookup f_is_name = some ⟨oc_is_name, od_is_name, .func (PySem.W.fnOf "is_name" "is_name" (defArgs s_is_name) (defBody s_is_name) (defScope s_is_name) .none kV_is_name dc_is_name pm_is_name an_is_name cd_is_name ct_is_name), sl_is_name⟩) (c_is_name : PySem.W.codeIn K cd_is_name "is_name" = true) (k_is_name : PySem.W.keepIn K (.ref f_is_name) = true)
    (a_is_full_name : PySem.W.nsIn K mainGlobals "is_full_name" = some (some (.ref f_is_full_name))) (l_is_full_name : K.lookup f_is_full_name = some ⟨oc_is_full_name, od_is_full_name, .func (PySem.W.fnOf "is_full_name" "is_full_name" (defArgs s_is_full_name) (defBody s_is_full_name) (defScope s_is_full_name) .none kV_is_full_name dc_is_full_name pm_is_full_name an_is_full_name cd_is_full_name ct_is_full_name), sl_is_full_name⟩) (c_is_full_name : PySem.W.codeIn K cd_is_full_name "is_full_name" = true) (k_is_full_name : PySem.W.keepIn K (.ref f_is_full_name) = true)
    (a_merge_names : PySem.W.nsIn K mainGlobals "merge_names" = some (some (.ref f_merge_names))) (l_merge_names : K.lookup f_merge_names = some ⟨oc_merge_names, od_merge_names, .func (PySem.W.fnOf "merge_names" "merge_names" (defArgs s_merge_names) (defBody s_merge_names) (defScope s_merge_names) .none kV_merge_names dc_merge_names pm_merge_names an_merge_names cd_merge_names ct_merge_names), sl_merge_names⟩) (c_merge_names : PySem.W.codeIn K cd_merge_names "merge_names" = true) (k_merge_names : PySem.W.keepIn K (.ref f_merge_names) = true)
    (a__check_names : PySem.W.nsIn K mainGlobals "_check_names" = some (some (.ref f__check_names))) (l__check_names : K.lookup f__check_names = some ⟨oc__check_names, od__check_names, .func (PySem.W.fnOf "_check_names" "_check_names" (defArgs s__check_names) (defBody s__check_names) (defScope s__check_names) .none kV__check_names dc__check_names pm__check_names an__check_names cd__check_names ct__check_names), sl__check_names⟩) (c__check_names : PySem.W.codeIn K cd__check_names "_check_names" = true) (k__check_names : PySem.W.keepIn K (.ref f__check_names) = true)
    (a__check_single : PySem.W.nsIn K mainGlobals "_check_single" = some (some (.ref f__check_single))) (l__check_single : K.lookup f__check_single = some ⟨oc__check_single, od__check_single, .func (PySem.W.fnOf "_check_single" "_check_single" (defArgs s__check_single) (defBody s__check_single) (defScope s__check_single) .none kV__check_single dc__check_single pm__check_single an__check_single cd__check_single ct__check_single), sl__check_single⟩) (c__check_single : PySem.W.codeIn K cd__check_single "_check_single" = true) (k__check_single : PySem.W.keepIn K (.ref f__check_single) = true)
    (a__law_source : PySem.W.nsIn K mainGlobals "_law_source" = some (some (.ref f__law_source))) (l__law_source : K.lookup f__law_source = some ⟨oc__law_source, od__law_source, .func (PySem.W.fnOf "_law_source" "_law_source" (defArgs s__law_source) (defBody s__law_source) (defScope s__law_source) .none kV__law_source dc__law_source pm__law_source an__law_source cd__law_source ct__law_source), sl__law_source⟩) (c__law_source : PySem.W.codeIn K cd__law_source "_law_source" = true) (k__law_source : PySem.W.keepIn K (.ref f__law_source) = true)
    (a__law_draw : PySem.W.nsIn K mainGlobals "_law_draw" = some (some (.ref f__law_draw))) (l__law_draw : K.lookup f__law_draw = some ⟨oc__law_draw, od__law_draw, .func (PySem.W.fnOf "_law_draw" "_law_draw" (defArgs s__law_draw) (defBody s__law_draw) (defScope s__law_draw) .none kV__law_draw dc__law_draw pm__law_draw an__law_draw cd__law_draw ct__law_draw), sl__law_draw⟩) (c__law_draw : PySem.W.codeIn K cd__law_draw "_law_draw" = true) (k__law_draw : PySem.W.keepIn K (.ref f__law_draw) = true)
    (a__law_plain : PySem.W.nsIn K mainGlobals "_law_plain" = some (some (.ref f__law_plain))) (l__law_plain : K.lookup f__law_plain = some ⟨oc__law_plain, od__law_plain, .func (PySem.W.fnOf "_law_plain" "_law_plain" (defArgs s__law_plain) (defBody s__law_plain) (defScope s__law_plain) .none kV__law_plain dc__law_plain pm__law_plain an__law_plain cd__law_plain ct__law_plain), sl__law_plain⟩) (c__law_plain : PySem.W.codeIn K cd__law_plain "_law_plain" = true) (k__law_plain : PySem.W.keepIn K (.ref f__law_plain) = true)
    (a__law_names : PySem.W.nsIn K mainGlobals "_law_names" = some (some (.ref f__law_names))) (l__law_names : K.lookup f__law_names = some ⟨oc__law_names, od__law_names, .func (PySem.W.fnOf "_law_names" "_law_names" (defArgs s__law_names) (defBody s__law_names) (defScope s__law_names) .none kV__law_names dc__law_names pm__law_names an__law_names cd__law_names ct__law_names), sl__law_names⟩) (c__law_names : PySem.W.codeIn K cd__law_names "_law_names" = true) (k__law_names : PySem.W.keepIn K (.ref f__law_names) = true)
    (a__law_is_name : PySem.W.nsIn K mainGlobals "_law_is_name" = some (some (.ref f__law_is_name))) (l__law_is_name : K.lookup f__law_is_name = some ⟨oc__law_is_name, od__law_is_name, .func (PySem.W.fnOf "_law_is_name" "_law_is_name" (defArgs s__law_is_name) (defBody s__law_is_name) (defScope s__law_is_name) .none kV__law_is_name dc__law_is_name pm__law_is_name an__law_is_name cd__law_is_name ct__law_is_name), sl__law_is_name⟩) (c__law_is_name : PySem.W.codeIn K cd__law_is_name "_law_is_name" = true) (k__law_is_name : PySem.W.keepIn K (.ref f__law_is_name) = true)
    (a__law_is_full : PySem.W.nsIn K mainGlobals "_law_is_full" = some (some (.ref f__law_is_full))) (l__law_is_full : K.lookup f__law_is_full = some ⟨oc__law_is_full, od__law_is_full, .func (PySem.W.fnOf "_law_is_full" "_law_is_full" (defArgs s__law_is_full) (defBody s__law_is_full) (defScope s__law_is_full) .none kV__law_is_full dc__law_is_full pm__law_is_full an__law_is_full cd__law_is_full ct__law_is_full), sl__law_is_full⟩) (c__law_is_full : PySem.W.codeIn K cd__law_is_full "_law_is_full" = true) (k__law_is_full : PySem.W.keepIn K (.ref f__law_is_full) = true)
    (a__law_expected_error : PySem.W.nsIn K mainGlobals "_law_expected_error" = some (some (.ref f__law_expected_error))) (l__law_expected_error : K.lookup f__law_expected_error = some ⟨oc__law_expected_error, od__law_expected_error, .func (PySem.W.fnOf "_law_expected_error" "_law_expected_error" (defArgs s__law_expected_error) (defBody s__law_expected_error) (defScope s__law_expected_error) .none kV__law_expected_error dc__law_expected_error pm__law_expected_error an__law_expected_error cd__law_expected_error ct__law_expected_error), sl__law_expected_error⟩) (c__law_expected_error : PySem.W.codeIn K cd__law_expected_error "_law_expected_error" = true) (k__law_expected_error : PySem.W.keepIn K (.ref f__law_expected_error) = true)
    (a__law_raised : PySem.W.nsIn K mainGlobals "_law_raised" = some (some (.ref f__law_raised))) (l__law_raised : K.lookup f__law_raised = some ⟨oc__law_raised, od__law_raised, .func (PySem.W.fnOf "_law_raised" "_law_raised" (defArgs s__law_raised) (defBody s__law_raised) (defScope s__law_raised) .none kV__law_raised dc__law_raised pm__law_raised an__law_raised cd__law_raised ct__law_raised), sl__law_raised⟩) (c__law_raised : PySem.W.codeIn K cd__law_raised "_law_raised" = true) (k__law_raised : PySem.W.keepIn K (.ref f__law_raised) = true)
    (a__law_shows : PySem.W.nsIn K mainGlobals "_law_shows" = some (some (.ref f__law_shows))) (l__law_shows : K.lookup f__law_shows = some ⟨oc__law_shows, od__law_shows, .func (PySem.W.fnOf "_law_shows" "_law_shows" (defArgs s__law_shows) (defBody s__law_shows) (defScope s__law_shows) .none kV__law_shows dc__law_shows pm__law_shows an__law_shows cd__law_shows ct__law_shows), sl__law_shows⟩) (c__law_shows : PySem.W.codeIn K cd__law_shows "_law_shows" = true) (k__law_shows : PySem.W.keepIn K (.ref f__law_shows) = true)
    (a__law_hides : PySem.W.nsIn K mainGlobals "_law_hides" = some (some (.ref f__law_hides))) (l__law_hides : K.lookup f__law_hides = some ⟨oc__law_hides, od__law_hides, .func (PySem.W.fnOf "_law_hides" "_law_hides" (defArgs s__law_hides) (defBody s__law_hides) (defScope s__law_hides) .none kV__law_hides dc__law_hides pm__law_hides an__law_hides cd__law_hides ct__law_hides), sl__law_hides⟩) (c__law_hides : PySem.W.codeIn K cd__law_hides "_law_hides" = true) (k__law_hides : PySem.W.keepIn K (.ref f__law_hides) = true)
    (a__law_reveals : PySem.W.nsIn K mainGlobals "_law_reveals" = some (some (.ref f__law_reveals))) (l__law_reveals : K.lookup f__law_reveals = some ⟨oc__law_reveals, od__law_reveals, .func (PySem.W.fnOf "_law_reveals" "_law_reveals" (defArgs s__law_reveals) (defBody s__law_reveals) (defScope s__law_reveals) .none kV__law_reveals dc__law_reveals pm__law_reveals an__law_reveals cd__law_reveals ct__law_reveals), sl__law_reveals⟩) (c__law_reveals : PySem.W.codeIn K cd__law_reveals "_law_reveals" = true) (k__law_reveals : PySem.W.keepIn K (.ref f__law_reveals) = true)
    (a__law_moves_right : PySem.W.nsIn K mainGlobals "_law_moves_right" = some (some (.ref f__law_moves_right))) (l__law_moves_right : K.lookup f__law_moves_right = some ⟨oc__law_moves_right, od__law_moves_right, .func (PySem.W.fnOf "_law_moves_right" "_law_moves_right" (defArgs s__law_moves_right) (defBody s__law_moves_right) (defScope s__law_moves_right) .none kV__law_moves_right dc__law_moves_right pm__law_moves_right an__law_moves_right cd__law_moves_right ct__law_moves_right), sl__law_moves_right⟩) (c__law_moves_right : PySem.W.codeIn K cd__law_moves_right "_law_moves_right" = true) (k__law_moves_right : PySem.W.keepIn K (.ref f__law_moves_right) = true)
    (a__law_others_right : PySem.W.nsIn K mainGlobals "_law_others_right" = some (some (.ref f__law_others_right))) (l__law_others_right : K.lookup f__law_others_right = some ⟨oc__law_others_right, od__law_others_right, .func (PySem.W.fnOf "_law_others_right" "_law_others_right" (defArgs s__law_others_right) (defBody s__law_others_right) (defScope s__law_others_right) .none kV__law_others_right dc__law_others_right pm__law_others_right an__law_others_right cd__law_others_right ct__law_others_right), sl__law_others_right⟩) (c__law_others_right : PySem.W.codeIn K cd__law_others_right "_law_others_right" = true) (k__law_others_right : PySem.W.keepIn K (.ref f__law_others_right) = true)
    (a_law : PySem.W.nsIn K mainGlobals "law" = some (some (.ref f_law))) (l_law : K.lookup f_law = some ⟨oc_law, od_law, .func (PySem.W.fnOf "law" "law" (defArgs s_law) (defBody s_law) (defScope s_law) .none kV_law dc_law pm_law an_law cd_law ct_law), sl_law⟩) (c_law : PySem.W.codeIn K cd_law "law" = true) (k_law : PySem.W.keepIn K (.ref f_law) = true)
    (z_LONGEST : PySem.W.nsIn K mainGlobals "LONGEST" = some (some (.int 8 t_LONGEST)))
    (z_LETTERS : PySem.W.nsIn K mainGlobals "LETTERS" = some (some (.str (Str.ofString "abcdefghijklmnopqrstuvwxyz") t_LETTERS)))
    (z_LETTERS_AND_DIGITS : PySem.W.nsIn K mainGlobals "LETTERS_AND_DIGITS" = some (some (.str (Str.ofString "abcdefghijklmnopqrstuvwxyz0123456789") t_LETTERS_AND_DIGITS)))
    (z_len : PySem.W.nsIn K mainGlobals "len" = some none)
    (z_all : PySem.W.nsIn K mainGlobals "all" = some none)
    (z_set : PySem.W.nsIn K mainGlobals "set" = some none)
    (z_sorted : PySem.W.nsIn K mainGlobals "sorted" = some none)
    (z_tuple : PySem.W.nsIn K mainGlobals "tuple" = some none)
    (z_int : PySem.W.nsIn K mainGlobals "int" = some none)
    (z_range : PySem.W.nsIn K mainGlobals "range" = some none)
    (z_isinstance : PySem.W.nsIn K mainGlobals "isinstance" = some none)
    (z_ValueError : PySem.W.nsIn K mainGlobals "ValueError" = some none)
    (z_list : PySem.W.nsIn K mainGlobals "list" = some none)
    (z_iter : PySem.W.nsIn K mainGlobals "iter" = some none)
    : ∃ fd : FuncData, (∀ (s : Shared) (v : Value), BindsTo s fd ⟨[v], []⟩ [("_law_script", v)]) ∧ ∀ base : Heap, K.In base → base.Ns mainGlobals mg → FnOk l.prog w K mg base CX0 11 fa fd ["_law_script"] (spLaw K) := by
  have e := hfa.symm.trans (PySem.W.mg_of X G a_law)
  cases e
  have teN := kit_exm ex_CN cd_CN ty_CN ss_CN
  have excN : OexC K CN := ⟨⟨nmN, qN, AN, bsN, bmN, snN, subN, abN, colN, ddN, k0N, k1N, k2N, k3N, k5N, l_CN, r_CN⟩, sa_CN, ex_CN, ty_CN, kp_CN⟩
  have TN : SupC K CN CN := ⟨⟨cdN, cd_CN⟩, m_CN, s_CN, v_CN, excN⟩
  have erN : ∀ base, Err l.prog w K mg base "InvalidName" CN "name" "name" okS 1 := fun base => ⟨⟨fIN, _, i_CN, t_fIN, ok_InvalidName l_fIN c_fIN ⟨clN, cldN, cslN, l_ccN⟩ ⟨cclN, cddN, vsN, ccsN, fileN, tfN, l_cdaN, v_cdaN, p_fileN⟩ p_top (PySem.W.mg_none_of X G z_super) any_ TN no_CN, Binds.all fun us hl => match us, hl with | [_, _], _ => rfl⟩, excN, PySem.W.mg_of X G a_CN, teN, ⟨ga_CN, gg_CN, ex_CN, hd_CN⟩, no_CN⟩
  have xcN : ExcC K CN := ⟨ga_CN, gg_CN, ex_CN, hd_CN, gc_CN, sp_, tk_, mo_CN⟩
  have teP := kit_exm ex_CP cd_CP ty_CP ss_CP
  have excP : OexC K CP := ⟨⟨nmP, qP, AP, bsP, bmP, snP, subP, abP, colP, ddP, k0P, k1P, k2P, k3P, k5P, l_CP, r_CP⟩, sa_CP, ex_CP, ty_CP, kp_CP⟩
  have TP : SupC K CP CP := ⟨⟨cdP, cd_CP⟩, m_CP, s_CP, v_CP, excP⟩
  have erP : ∀ base, Err l.prog w K mg base "InvalidPart" CP "name" "name" okS 1 := fun base => ⟨⟨fIP, _, i_CP, t_fIP, ok_InvalidPart l_fIP c_fIP ⟨clP, cldP, cslP, l_ccP⟩ ⟨cclP, cddP, vsP, ccsP, fileP, tfP, l_cdaP, v_cdaP, p_fileP⟩ p_top (PySem.W.mg_none_of X G z_super) any_ TP no_CP, Binds.all fun us hl => match us, hl with | [_, _], _ => rfl⟩, excP, PySem.W.mg_of X G a_CP, teP, ⟨ga_CP, gg_CP, ex_CP, hd_CP⟩, no_CP⟩
  have xcP : ExcC K CP := ⟨ga_CP, gg_CP, ex_CP, hd_CP, gc_CP, sp_, tk_, mo_CP⟩
  have ef : EF K mg CN CP SE := ⟨xcN, by rw [cd_CN]; rfl, xcP, by rw [cd_CP]; rfl, kit_f ss_CN cd_CP ty_CP su_NP, kit_t clS tS su_SN, kit_v v_CP, kit_t clS tS su_SP, exm_f ex_CN cd_CN ty_CN su_PN, PySem.W.mg_of X G aS⟩
  have F_pnames := fun_mk (x := "names") (qual := "Part.names") (st := s_Part_names) l_pnames c_pnames k_pnames
  have b_pnames := F_pnames.binds (ps := ["self"]) fun _ _ _ _ _ _ us hl => match us, hl with | [_], _ => rfl
  have F_ptheory := fun_mk (x := "theory") (qual := "Part.theory") (st := s_Part_theory) l_ptheory c_ptheory k_ptheory
  have b_ptheory := F_ptheory.binds (ps := ["self"]) fun _ _ _ _ _ _ us hl => match us, hl with | [_], _ => rfl
  have F_bare := fun_mk (x := "bare") (qual := "Part.bare") (st := s_Part_bare) l_bare c_bare k_bare
  have b_bare := F_bare.binds (ps := ["cls", "word", "name"]) fun _ _ _ _ _ _ us hl => match us, hl with | [_, _, _], _ => rfl
  have F_init := fun_mk (x := "__init__") (qual := "Part.__init__") (st := s_Part___init__) l_init c_init k_init
  have b_init := F_init.binds (ps := ["self", "word", "name", "shown", "hidden", "constraints"]) fun _ _ _ _ _ _ us hl => match us, hl with | [_, _, _, _, _, _], _ => rfl
  have F_M__len__ := fun_mk (x := "__len__") (qual := "Part.__len__") (st := s_Part___len__) l_M__len__ c_M__len__ k_M__len__
  have b_M__len__ := F_M__len__.binds (ps := ["self"]) fun _ _ _ _ _ _ us hl => match us, hl with | [_], _ => rfl
  have F_M__contains__ := fun_mk (x := "__contains__") (qual := "Part.__contains__") (st := s_Part___contains__) l_M__contains__ c_M__contains__ k_M__contains__
  have b_M__contains__ := F_M__contains__.binds (ps := ["self", "x"]) fun _ _ _ _ _ _ us hl => match us, hl with | [_, _], _ => rfl
  have F_M__iter__ := fun_mk (x := "__iter__") (qual := "Part.__iter__") (st := s_Part___iter__) l_M__iter__ c_M__iter__ k_M__iter__
  have b_M__iter__ := F_M__iter__.binds (ps := ["self"]) fun _ _ _ _ _ _ us hl => match us, hl with | [_], _ => rfl
  have F_M__sub__ := fun_mk (x := "__sub__") (qual := "Part.__sub__") (st := s_Part___sub__) l_M__sub__ c_M__sub__ k_M__sub__
  have b_M__sub__ := F_M__sub__.binds (ps := ["self", "other"]) fun _ _ _ _ _ _ us hl => match us, hl with | [_, _], _ => rfl
  have F_Mreveal := fun_mk (x := "reveal") (qual := "Part.reveal") (st := s_Part_reveal) l_Mreveal c_Mreveal k_Mreveal
  have b_Mreveal := F_Mreveal.binds (ps := ["self", "name"]) fun _ _ _ _ _ _ us hl => match us, hl with | [_, _], _ => rfl
  have F_Mwith_constraints := fun_mk (x := "with_constraints") (qual := "Part.with_constraints") (st := s_Part_with_constraints) l_Mwith_constraints c_Mwith_constraints k_Mwith_constraints
  have b_Mwith_constraints := F_Mwith_constraints.binds (ps := ["self", "constraints"]) fun _ _ _ _ _ _ us hl => match us, hl with | [_, _], _ => rfl
  have F_Mcalled := fun_mk (x := "called") (qual := "Part.called") (st := s_Part_called) l_Mcalled c_Mcalled k_Mcalled
  have b_Mcalled := F_Mcalled.binds (ps := ["self", "name"]) fun _ _ _ _ _ _ us hl => match us, hl with | [_, _], _ => rfl
  have F_is_name := fun_mk (x := "is_name") (qual := "is_name") (st := s_is_name) l_is_name c_is_name k_is_name
  have b_is_name := F_is_name.binds (ps := ["text"]) fun _ _ _ _ _ _ us hl => match us, hl with | [_], _ => rfl
  have F_is_full_name := fun_mk (x := "is_full_name") (qual := "is_full_name") (st := s_is_full_name) l_is_full_name c_is_full_name k_is_full_name
  have b_is_full_name := F_is_full_name.binds (ps := ["text"]) fun _ _ _ _ _ _ us hl => match us, hl with | [_], _ => rfl
  have F_merge_names := fun_mk (x := "merge_names") (qual := "merge_names") (st := s_merge_names) l_merge_names c_merge_names k_merge_names
  have F__check_names := fun_mk (x := "_check_names") (qual := "_check_names") (st := s__check_names) l__check_names c__check_names k__check_names
  have b__check_names := F__check_names.binds (ps := ["name", "shown", "hidden"]) fun _ _ _ _ _ _ us hl => match us, hl with | [_, _, _], _ => rfl
  have F__check_single := fun_mk (x := "_check_single") (qual := "_check_single") (st := s__check_single) l__check_single c__check_single k__check_single
  have b__check_single := F__check_single.binds (ps := ["names"]) fun _ _ _ _ _ _ us hl => match us, hl with | [_], _ => rfl
  have F__law_source := fun_mk (x := "_law_source") (qual := "_law_source") (st := s__law_source) l__law_source c__law_source k__law_source
  have b__law_source := F__law_source.binds (ps := ["_law_script", "_law_k"]) fun _ _ _ _ _ _ us hl => match us, hl with | [_, _], _ => rfl
  have F__law_draw := fun_mk (x := "_law_draw") (qual := "_law_draw") (st := s__law_draw) l__law_draw c__law_draw k__law_draw
  have b__law_draw := F__law_draw.binds (ps := ["_law_source_here", "_law_limit"]) fun _ _ _ _ _ _ us hl => match us, hl with | [_, _], _ => rfl
  have F__law_plain := fun_mk (x := "_law_plain") (qual := "_law_plain") (st := s__law_plain) l__law_plain c__law_plain k__law_plain
  have b__law_plain := F__law_plain.binds (ps := ["_law_source_here"]) fun _ _ _ _ _ _ us hl => match us, hl with | [_], _ => rfl
  have F__law_names := fun_mk (x := "_law_names") (qual := "_law_names") (st := s__law_names) l__law_names c__law_names k__law_names
  have b__law_names := F__law_names.binds (ps := ["_law_source_here", "_law_dotted"]) fun _ _ _ _ _ _ us hl => match us, hl with | [_, _], _ => rfl
  have F__law_is_name := fun_mk (x := "_law_is_name") (qual := "_law_is_name") (st := s__law_is_name) l__law_is_name c__law_is_name k__law_is_name
  have b__law_is_name := F__law_is_name.binds (ps := ["_law_text"]) fun _ _ _ _ _ _ us hl => match us, hl with | [_], _ => rfl
  have F__law_is_full := fun_mk (x := "_law_is_full") (qual := "_law_is_full") (st := s__law_is_full) l__law_is_full c__law_is_full k__law_is_full
  have b__law_is_full := F__law_is_full.binds (ps := ["_law_text"]) fun _ _ _ _ _ _ us hl => match us, hl with | [_], _ => rfl
  have F__law_expected_error := fun_mk (x := "_law_expected_error") (qual := "_law_expected_error") (st := s__law_expected_error) l__law_expected_error c__law_expected_error k__law_expected_error
  have b__law_expected_error := F__law_expected_error.binds (ps := ["_law_name", "_law_shown", "_law_hidden"]) fun _ _ _ _ _ _ us hl => match us, hl with | [_, _, _], _ => rfl
  have F__law_raised := fun_mk (x := "_law_raised") (qual := "_law_raised") (st := s__law_raised) l__law_raised c__law_raised k__law_raised
  have b__law_raised := F__law_raised.binds (ps := ["_law_name", "_law_shown", "_law_hidden"]) fun _ _ _ _ _ _ us hl => match us, hl with | [_, _, _], _ => rfl
  have F__law_shows := fun_mk (x := "_law_shows") (qual := "_law_shows") (st := s__law_shows) l__law_shows c__law_shows k__law_shows
  have b__law_shows := F__law_shows.binds (ps := ["_law_part", "_law_shown", "_law_hidden", "_law_constraints"]) fun _ _ _ _ _ _ us hl => match us, hl with | [_, _, _, _], _ => rfl
  have F__law_hides := fun_mk (x := "_law_hides") (qual := "_law_hides") (st := s__law_hides) l__law_hides c__law_hides k__law_hides
  have b__law_hides := F__law_hides.binds (ps := ["_law_part", "_law_name"]) fun _ _ _ _ _ _ us hl => match us, hl with | [_, _], _ => rfl
  have F__law_reveals := fun_mk (x := "_law_reveals") (qual := "_law_reveals") (st := s__law_reveals) l__law_reveals c__law_reveals k__law_reveals
  have b__law_reveals := F__law_reveals.binds (ps := ["_law_part", "_law_name"]) fun _ _ _ _ _ _ us hl => match us, hl with | [_, _], _ => rfl
  have F__law_moves_right := fun_mk (x := "_law_moves_right") (qual := "_law_moves_right") (st := s__law_moves_right) l__law_moves_right c__law_moves_right k__law_moves_right
  have b__law_moves_right := F__law_moves_right.binds (ps := ["_law_part", "_law_name", "_law_shown", "_law_hidden", "_law_constraints"]) fun _ _ _ _ _ _ us hl => match us, hl with | [_, _, _, _, _], _ => rfl
  have F__law_others_right := fun_mk (x := "_law_others_right") (qual := "_law_others_right") (st := s__law_others_right) l__law_others_right c__law_others_right k__law_others_right
  have b__law_others_right := F__law_others_right.binds (ps := ["_law_part", "_law_shown", "_law_hidden", "_law_constraints"]) fun _ _ _ _ _ _ us hl => match us, hl with | [_, _, _, _], _ => rfl
  have F_law := fun_mk (x := "law") (qual := "law") (st := s_law) l_law c_law k_law
  have m_LONGEST := PySem.W.mg_of X G z_LONGEST
  have m_LETTERS := PySem.W.mg_of X G z_LETTERS
  have m_LETTERS_AND_DIGITS := PySem.W.mg_of X G z_LETTERS_AND_DIGITS
  have m_len := PySem.W.mg_none_of X G z_len
  have m_all := PySem.W.mg_none_of X G z_all
  have m_set := PySem.W.mg_none_of X G z_set
  have m_sorted := PySem.W.mg_none_of X G z_sorted
  have m_tuple := PySem.W.mg_none_of X G z_tuple
  have m_int := PySem.W.mg_none_of X G z_int
  have m_range := PySem.W.mg_none_of X G z_range
  have m_isinstance := PySem.W.mg_none_of X G z_isinstance
  have m_ValueError := PySem.W.mg_none_of X G z_ValueError
  have m_list := PySem.W.mg_none_of X G z_list
  have m_iter := PySem.W.mg_none_of X G z_iter
  have cf : K02.CF K C := ⟨⟨pg, hd, po, sa⟩, n1, n2, n3, n4, n5⟩
  have g_Part := PySem.W.mg_of X G aC
  have e_sub : (PySem.dunder "sub" : Str) = ("__sub__" : Str) := by decide +kernel
  have e_rsub : (dunderR "sub" : Str) = ("__rsub__" : Str) := by decide +kernel
  have B___sub__ : BinF K C .Sub "str" := ⟨hf1, ⟨_, (by show PySem.W.findIn K (.ref C) (dunderR "sub") = _; rw [e_rsub]; exact i3), .inl rfl⟩, ⟨i_fo, by show PySem.W.findIn K (.type "str") (PySem.dunder "sub") = _; rw [e_sub]; exact i1⟩, ⟨i_ro, by show PySem.W.findIn K (.type "str") (dunderR "sub") = _; rw [e_rsub]; exact i2⟩, hsb2⟩
  refine ⟨PySem.W.fnOf "law" "law" (defArgs s_law) (defBody s_law) (defScope s_law) .none kV_law dc_law pm_law an_law cd_law ct_law, fun s v => .of_eq rfl, fun base _ _ => ?_⟩
  have E_InvalidName := erN base
  have E_InvalidPart := erP base
  have C_is_name : Cal l.prog w K mg base "is_name" 1 ["text"] spIsName := ⟨_, _, ok_is_name (F := F_is_name) (m_len := m_len) (m_all := m_all) (m_LONGEST := m_LONGEST) (m_LETTERS := m_LETTERS) (m_LETTERS_AND_DIGITS := m_LETTERS_AND_DIGITS), PySem.W.mg_of X G a_is_name, F_is_name.kp, b_is_name⟩
  have C_is_full_name : Cal l.prog w K mg base "is_full_name" 2 ["text"] spFull := ⟨_, _, ok_is_full_name (F := F_is_full_name) (m_all := m_all) (C_is_name := C_is_name), PySem.W.mg_of X G a_is_full_name, F_is_full_name.kp, b_is_full_name⟩
  have C_merge_names : CalR l.prog w K mg base "merge_names" 1 (spMerge K) := ⟨_, ok_merge_names (F := F_merge_names) (m_set := m_set) (m_sorted := m_sorted) (m_tuple := m_tuple), PySem.W.mg_of X G a_merge_names, F_merge_names.kp⟩
  have C__check_names : CalE l.prog w K mg base "_check_names" 4 ["name", "shown", "hidden"] (spChkN K CN) := ⟨_, _, ok_check_names (F := F__check_names) (C_is_name := C_is_name) (C_is_full_name := C_is_full_name) (E_InvalidName := E_InvalidName), PySem.W.mg_of X G a__check_names, F__check_names.kp, b__check_names⟩
  have C__check_single : CalE l.prog w K mg base "_check_single" 3 ["names"] (spChkS K CP) := ⟨_, _, ok_check_single (F := F__check_single) (C_merge_names := C_merge_names) (E_InvalidPart := E_InvalidPart), PySem.W.mg_of X G a__check_single, F__check_single.kp, b__check_single⟩
  have K_P : MkP l.prog w K mg base C CN CP := ⟨_, _, ⟨mk, a_init, fi_init, kc⟩, ok_init (F := F_init) (cf := cf) (m_tuple := m_tuple) (C_merge_names := C_merge_names) (C__check_names := C__check_names) (C__check_single := C__check_single), g_Part, b_init⟩
  have P_names : PropC l.prog w K mg base C "names" 2 (spNames K C) := ⟨cf.cl, p_names, f_pnames, _, ⟨ap_names, sp_names, tk_names, rs_names, rc_names⟩, ok_names (F := F_pnames) (cf := cf) (C_merge_names := C_merge_names), b_pnames⟩
  have P_theory : PropC l.prog w K mg base C "theory" 4 (spTheory K C) := ⟨cf.cl, p_theory, f_ptheory, _, ⟨ap_theory, sp_theory, tk_theory, rs_theory, rc_theory⟩, ok_theory (F := F_ptheory) (cf := cf) (P_names := P_names), b_ptheory⟩
  have O___len__ : OwM l.prog w K mg base CX0 C "__len__" 1 ["self"] (spLen K C) := ⟨_, _, ok_len (F := F_M__len__) (cf := cf) (m_len := m_len), a_M__len__, i_M__len__, k_M__len__, b_M__len__⟩
  have O___contains__ : OwM l.prog w K mg base CX0 C "__contains__" 1 ["self", "x"] (spCont K C) := ⟨_, _, ok_cont (F := F_M__contains__) (cf := cf), a_M__contains__, i_M__contains__, k_M__contains__, b_M__contains__⟩
  have I_Part : ItM l.prog w K mg base C "constraints" 1 := it_mk cf F_M__iter__ m_iter a_M__iter__ i_M__iter__ b_M__iter__
  have O___sub__ : OwM l.prog w K mg base (L2.CX l.prog w) C (PySem.dunder "sub") 7 ["self", "other"] (spSub K C CP) := ⟨_, _, ok_sub (F := F_M__sub__) (cf := cf) (K_P := K_P) (E_InvalidPart := E_InvalidPart), (by rw [e_sub]; exact a_M__sub__), i_M__sub__, k_M__sub__, b_M__sub__⟩
  have M_reveal : MthX l.prog w K mg base C "reveal" 7 ["self", "name"] (spRev K C CP) := ⟨_, _, cf.cl, ⟨a_Mreveal, i_Mreveal, k_Mreveal⟩, ok_reveal (F := F_Mreveal) (cf := cf) (C_is_name := C_is_name) (K_P := K_P) (E_InvalidPart := E_InvalidPart), b_Mreveal⟩
  have M_with_constraints : MthC l.prog w K mg base C "with_constraints" 7 ["self", "constraints"] (spWith K C) := ⟨_, _, cf.cl, ⟨a_Mwith_constraints, i_Mwith_constraints, k_Mwith_constraints⟩, ok_with (F := F_Mwith_constraints) (cf := cf) (K_P := K_P), b_Mwith_constraints⟩
  have M_called : MthX l.prog w K mg base C "called" 7 ["self", "name"] (spCalled K C CN) := ⟨_, _, cf.cl, ⟨a_Mcalled, i_Mcalled, k_Mcalled⟩, ok_called (F := F_Mcalled) (cf := cf) (K_P := K_P), b_Mcalled⟩
  have M_bare : CmC l.prog w K mg base C "bare" 7 (spBare K C) := ⟨.type "type", p_bare, f_bare, cread_mk any_ tyC tga tsub, ⟨cmet_mk tma cb tyb spb rfl, ⟨rs_bare, rcb⟩, fib⟩, FnR.imp (FnOk.raw (ok_bare (F := F_bare) (K_P := K_P)) b_bare .nil) fun vs H Q E h => by rw [List.append_nil]; exact h⟩
  have C__law_source : Cal l.prog w K mg base "_law_source" 1 ["_law_script", "_law_k"] (spSource K) := ⟨_, _, ok_source (F := F__law_source) (m_len := m_len) (m_int := m_int), PySem.W.mg_of X G a__law_source, F__law_source.kp, b__law_source⟩
  have C__law_draw : Cal l.prog w K mg base "_law_draw" 1 ["_law_source_here", "_law_limit"] spDraw := ⟨_, _, ok_draw (F := F__law_draw) (m_int := m_int), PySem.W.mg_of X G a__law_draw, F__law_draw.kp, b__law_draw⟩
  have C__law_plain : Cal l.prog w K mg base "_law_plain" 2 ["_law_source_here"] spPlain := ⟨_, _, ok_plain (F := F__law_plain) (C__law_draw := C__law_draw), PySem.W.mg_of X G a__law_plain, F__law_plain.kp, b__law_plain⟩
  have C__law_names : Cal l.prog w K mg base "_law_names" 3 ["_law_source_here", "_law_dotted"] spNm := ⟨_, _, ok_lnames (F := F__law_names) (m_range := m_range) (m_len := m_len) (C__law_draw := C__law_draw) (C__law_plain := C__law_plain), PySem.W.mg_of X G a__law_names, F__law_names.kp, b__law_names⟩
  have C__law_is_name : Cal l.prog w K mg base "_law_is_name" 1 ["_law_text"] spLawIsName := ⟨_, _, ok_law_is_name (F := F__law_is_name) (m_len := m_len), PySem.W.mg_of X G a__law_is_name, F__law_is_name.kp, b__law_is_name⟩
  have C__law_is_full : Cal l.prog w K mg base "_law_is_full" 2 ["_law_text"] spLawIsFull := ⟨_, _, ok_law_is_full (F := F__law_is_full) (C__law_is_name := C__law_is_name), PySem.W.mg_of X G a__law_is_full, F__law_is_full.kp, b__law_is_full⟩
  have C__law_expected_error : Cal l.prog w K mg base "_law_expected_error" 3 ["_law_name", "_law_shown", "_law_hidden"] (spExp K) := ⟨_, _, ok_expected (F := F__law_expected_error) (m_len := m_len) (m_range := m_range) (m_sorted := m_sorted) (C__law_is_name := C__law_is_name) (C__law_is_full := C__law_is_full), PySem.W.mg_of X G a__law_expected_error, F__law_expected_error.kp, b__law_expected_error⟩
  have C__law_raised : Cal l.prog w K mg base "_law_raised" 7 ["_law_name", "_law_shown", "_law_hidden"] (spRaised K) := ⟨_, _, ok_raised (F := F__law_raised) (ef := ef) (m_isinstance := m_isinstance) (m_ValueError := m_ValueError) (K_P := K_P) (E_InvalidName := E_InvalidName) (E_InvalidPart := E_InvalidPart), PySem.W.mg_of X G a__law_raised, F__law_raised.kp, b__law_raised⟩
  have C__law_shows : Cal l.prog w K mg base "_law_shows" 8 ["_law_part", "_law_shown", "_law_hidden", "_law_constraints"] (spShows K C) := ⟨_, _, ok_shows (F := F__law_shows) (cf := cf) (m_isinstance := m_isinstance) (m_tuple := m_tuple) (m_sorted := m_sorted) (m_len := m_len) (P_names := P_names) (P_theory := P_theory) (O___len__ := O___len__) (O___contains__ := O___contains__) (I_Part := I_Part), PySem.W.mg_of X G a__law_shows, F__law_shows.kp, b__law_shows⟩
  have C__law_hides : Cal l.prog w K mg base "_law_hides" 8 ["_law_part", "_law_name"] (spHides K C) := ⟨_, _, ok_hides (F := F__law_hides) (E_InvalidPart := E_InvalidPart) (O___sub__ := O___sub__) (B___sub__ := B___sub__), PySem.W.mg_of X G a__law_hides, F__law_hides.kp, b__law_hides⟩
  have C__law_reveals : Cal l.prog w K mg base "_law_reveals" 8 ["_law_part", "_law_name"] (spReveals K C) := ⟨_, _, ok_reveals (F := F__law_reveals) (E_InvalidPart := E_InvalidPart) (M_reveal := M_reveal), PySem.W.mg_of X G a__law_reveals, F__law_reveals.kp, b__law_reveals⟩
  have C__law_moves_right : Cal l.prog w K mg base "_law_moves_right" 10 ["_law_part", "_law_name", "_law_shown", "_law_hidden", "_law_constraints"] (spMoves K C) := ⟨_, _, ok_moves (F := F__law_moves_right) (C__law_hides := C__law_hides) (C__law_reveals := C__law_reveals) (C__law_shows := C__law_shows) (C__law_is_name := C__law_is_name), PySem.W.mg_of X G a__law_moves_right, F__law_moves_right.kp, b__law_moves_right⟩
  have C__law_others_right : Cal l.prog w K mg base "_law_others_right" 10 ["_law_part", "_law_shown", "_law_hidden", "_law_constraints"] (spOthers K C) := ⟨_, _, ok_others (F := F__law_others_right) (cf := cf) (m_list := m_list) (g_Part := g_Part) (C__law_shows := C__law_shows) (O___len__ := O___len__) (I_Part := I_Part) (M_with_constraints := M_with_constraints) (M_called := M_called) (M_bare := M_bare) (E_InvalidName := E_InvalidName), PySem.W.mg_of X G a__law_others_right, F__law_others_right.kp, b__law_others_right⟩
  exact ok_law F_law (cf := cf) (m_list := m_list) (m_range := m_range) (m_tuple := m_tuple) (K_P := K_P) (C__law_source := C__law_source) (C__law_draw := C__law_draw) (C__law_plain := C__law_plain) (C__law_names := C__law_names) (C__law_expected_error := C__law_expected_error) (C__law_raised := C__law_raised) (C__law_shows := C__law_shows) (C__law_moves_right := C__law_moves_right) (C__law_others_right := C__law_others_right)
end K02
open PySem PySem.W PyProof.Rows
set_option maxRecDepth 100000 in
set_option maxHeartbeats 0 in
theorem PySem.Challenge.cw_shadowlinks_k02_parts_holds : PySem.Challenge.rw_shadowlinks_k02_parts.Holds := by
  w_on; o_law; k_head; (case hw => w_witness2)
  k_fill
  refine L2.walk_of (l := PySem.Challenge.rw_shadowlinks_k02_parts) (n := 63) (k := 11) (x := "_law_script") (CX := fun _ => L2.CX0) (sp := fun w => K02.spLaw _) rfl (by decide) rfl ⟨rfl, by decide, by decide⟩ (fun w h Y => PySem.W.kIn_of Y) ?F (fun _ _ a ns hl _ hS => ⟨a, ns, rfl, hS, hl, fun _ => rfl⟩) (fun _ _ _ _ _ h => h)
  case F =>
    intro w mg fa h KX G hmg
    refine' K02.all_mk KX G hmg ?aC ?aS ?pg ?hd ?po ?sa ?mk ?kc ?n1 ?n2 ?n3 ?n4 ?n5 ?hf1 ?i1 ?i2 ?i3 ?hsb2 ?p_top ?z_super ?any_ ?sp_ ?tk_ ?clS ?tS ?a_CN ?l_CN ?r_CN ?cd_CN ?sa_CN ?ex_CN ?ty_CN ?kp_CN ?i_CN ?t_fIN ?l_fIN ?c_fIN ?l_ccN ?l_cdaN ?v_cdaN ?p_fileN ?m_CN ?s_CN ?v_CN ?no_CN ?ss_CN ?ga_CN ?gg_CN ?hd_CN ?gc_CN ?mo_CN ?su_SN ?a_CP ?l_CP ?r_CP ?cd_CP ?sa_CP ?ex_CP ?ty_CP ?kp_CP ?i_CP ?t_fIP ?l_fIP ?c_fIP ?l_ccP ?l_cdaP ?v_cdaP ?p_fileP ?m_CP ?s_CP ?v_CP ?no_CP ?ss_CP ?ga_CP ?gg_CP ?hd_CP ?gc_CP ?mo_CP ?su_SP ?su_NP ?su_PN ?ap_names ?sp_names ?tk_names ?rc_names ?l_pnames ?c_pnames ?k_pnames ?ap_theory ?sp_theory ?tk_theory ?rc_theory ?l_ptheory ?c_ptheory ?k_ptheory ?tyC ?tga ?tsub ?tma ?cb ?tyb ?spb ?rcb ?fib ?l_bare ?c_bare ?k_bare ?a_init ?l_init ?c_init ?k_init ?fi_init ?a_M__len__ ?l_M__len__ ?c_M__len__ ?k_M__len__ ?i_M__len__ ?a_M__contains__ ?l_M__contains__ ?c_M__contains__ ?k_M__contains__ ?i_M__contains__ ?a_M__iter__ ?l_M__iter__ ?c_M__iter__ ?k_M__iter__ ?i_M__iter__ ?a_M__sub__ ?l_M__sub__ ?c_M__sub__ ?k_M__sub__ ?i_M__sub__ ?a_Mreveal ?l_Mreveal ?c_Mreveal ?k_Mreveal ?i_Mreveal ?a_Mwith_constraints ?l_Mwith_constraints ?c_Mwith_constraints ?k_Mwith_constraints ?i_Mwith_constraints ?a_Mcalled ?l_Mcalled ?c_Mcalled ?k_Mcalled ?i_Mcalled ?a_is_name ?l_is_name ?c_is_name ?k_is_name ?a_is_full_name ?l_is_full_name ?c_is_full_name ?k_is_full_name ?a_merge_names ?l_merge_names ?c_merge_names ?k_merge_names ?a__check_names ?l__check_names ?c__check_names ?k__check_names ?a__check_single ?l__check_single ?c__check_single ?k__check_single ?a__law_source ?l__law_source ?c__law_source ?k__law_source ?a__law_draw ?l__law_draw ?c__law_draw ?k__law_draw ?a__law_plain ?l__law_plain ?c__law_plain ?k__law_plain ?a__law_names ?l__law_names ?c__law_names ?k__law_names ?a__law_is_name ?l__law_is_name ?c__law_is_name ?k__law_is_name ?a__law_is_full ?l__law_is_full ?c__law_is_full ?k__law_is_full ?a__law_expected_error ?l__law_expected_error ?c__law_expected_error ?k__law_expected_error ?a__law_raised ?l__law_raised ?c__law_raised ?k__law_raised ?a__law_shows ?l__law_shows ?c__law_shows ?k__law_shows ?a__law_hides ?l__law_hides ?c__law_hides ?k__law_hides ?a__law_reveals ?l__law_reveals ?c__law_reveals ?k__law_reveals ?a__law_moves_right ?l__law_moves_right ?c__law_moves_right ?k__law_moves_right ?a__law_others_right ?l__law_others_right ?c__law_others_right ?k__law_others_right ?a_law ?l_law ?c_law ?k_law ?z_LONGEST ?z_LETTERS ?z_LETTERS_AND_DIGITS ?z_len ?z_all ?z_set ?z_sorted ?z_tuple ?z_int ?z_range ?z_isinstance ?z_ValueError ?z_list ?z_iter
    (case aC => k_is)
    (case aS => k_is)
    (case pg => k_is)
    (case hd => k_is)
    (case po => k_is)
    (case sa => k_is)
    (case mk => k_is)
    (case kc => k_is)
    (case n1 => k_is)
    (case n2 => k_is)
    (case n3 => k_is)
    (case n4 => k_is)
    (case n5 => k_is)
    (case hf1 => k_is)
    (case i1 => k_is)
    (case i2 => k_is)
    (case i3 => k_is)
    (case hsb2 => k_is)
    (case p_top => rfl)
    (case z_super => k_is)
    (case any_ => k_is)
    (case sp_ => k_is)
    (case tk_ => k_is)
    (case clS => k_is)
    (case tS => k_is)
    (case a_CN => k_is)
    (case l_CN => k_is)
    (case r_CN => rfl)
    (case cd_CN => k_is)
    (case sa_CN => k_is)
    (case ex_CN => k_is)
    (case ty_CN => k_is)
    (case kp_CN => k_is)
    (case i_CN => k_is)
    (case t_fIN => k_is)
    (case l_fIN => k_is)
    (case c_fIN => k_is)
    (case l_ccN => k_is)
    (case l_cdaN => k_is)
    (case v_cdaN => rfl)
    (case p_fileN => rfl)
    (case m_CN => k_is)
    (case s_CN => ks_is)
    (case v_CN => k_is)
    (case no_CN => k_is)
    (case ss_CN => k_is)
    (case ga_CN => k_is)
    (case gg_CN => k_is)
    (case hd_CN => k_is)
    (case gc_CN => k_is)
    (case mo_CN => k_is)
    (case su_SN => k_is)
    (case a_CP => k_is)
    (case l_CP => k_is)
    (case r_CP => rfl)
    (case cd_CP => k_is)
    (case sa_CP => k_is)
    (case ex_CP => k_is)
    (case ty_CP => k_is)
    (case kp_CP => k_is)
    (case i_CP => k_is)
    (case t_fIP => k_is)
    (case l_fIP => k_is)
    (case c_fIP => k_is)
    (case l_ccP => k_is)
    (case l_cdaP => k_is)
    (case v_cdaP => rfl)
    (case p_fileP => rfl)
    (case m_CP => k_is)
    (case s_CP => ks_is)
    (case v_CP => k_is)
    (case no_CP => k_is)
    (case ss_CP => k_is)
    (case ga_CP => k_is)
    (case gg_CP => k_is)
    (case hd_CP => k_is)
    (case gc_CP => k_is)
    (case mo_CP => k_is)
    (case su_SP => k_is)
    (case su_NP => k_is)
    (case su_PN => k_is)
    (case ap_names => k_is)
    (case sp_names => k_is)
    (case tk_names => k_is)
    (case rc_names => k_is)
    (case l_pnames => k_is)
    (case c_pnames => k_is)
    (case k_pnames => k_is)
    (case ap_theory => k_is)
    (case sp_theory => k_is)
    (case tk_theory => k_is)
    (case rc_theory => k_is)
    (case l_ptheory => k_is)
    (case c_ptheory => k_is)
    (case k_ptheory => k_is)
    (case tyC => k_is)
    (case tga => k_is)
    (case tsub => k_is)
    (case tma => k_is)
    (case cb => k_is)
    (case tyb => k_is)
    (case spb => k_is)
    (case rcb => k_is)
    (case fib => k_is)
    (case l_bare => k_is)
    (case c_bare => k_is)
    (case k_bare => k_is)
    (case a_init => k_is)
    (case l_init => k_is)
    (case c_init => k_is)
    (case k_init => k_is)
    (case fi_init => k_is)
    (case a_M__len__ => k_is)
    (case l_M__len__ => k_is)
    (case c_M__len__ => k_is)
    (case k_M__len__ => k_is)
    (case i_M__len__ => k_is)
    (case a_M__contains__ => k_is)
    (case l_M__contains__ => k_is)
    (case c_M__contains__ => k_is)
    (case k_M__contains__ => k_is)
    (case i_M__contains__ => k_is)
    (case a_M__iter__ => k_is)
    (case l_M__iter__ => k_is)
    (case c_M__iter__ => k_is)
    (case k_M__iter__ => k_is)
    (case i_M__iter__ => k_is)
    (case a_M__sub__ => k_is)
    (case l_M__sub__ => k_is)
    (case c_M__sub__ => k_is)
    (case k_M__sub__ => k_is)
    (case i_M__sub__ => k_is)
    (case a_Mreveal => k_is)
    (case l_Mreveal => k_is)
    (case c_Mreveal => k_is)
    (case k_Mreveal => k_is)
    (case i_Mreveal => k_is)
    (case a_Mwith_constraints => k_is)
    (case l_Mwith_constraints => k_is)
    (case c_Mwith_constraints => k_is)
    (case k_Mwith_constraints => k_is)
    (case i_Mwith_constraints => k_is)
    (case a_Mcalled => k_is)
    (case l_Mcalled => k_is)
    (case c_Mcalled => k_is)
    (case k_Mcalled => k_is)
    (case i_Mcalled => k_is)
    (case a_is_name => k_is)
    (case l_is_name => k_is)
    (case c_is_name => k_is)
    (case k_is_name => k_is)
    (case a_is_full_name => k_is)
    (case l_is_full_name => k_is)
    (case c_is_full_name => k_is)
    (case k_is_full_name => k_is)
    (case a_merge_names => k_is)
    (case l_merge_names => k_is)
    (case c_merge_names => k_is)
    (case k_merge_names => k_is)
    (case a__check_names => k_is)
    (case l__check_names => k_is)
    (case c__check_names => k_is)
    (case k__check_names => k_is)
    (case a__check_single => k_is)
    (case l__check_single => k_is)
    (case c__check_single => k_is)
    (case k__check_single => k_is)
    (case a__law_source => k_is)
    (case l__law_source => k_is)
    (case c__law_source => k_is)
    (case k__law_source => k_is)
    (case a__law_draw => k_is)
    (case l__law_draw => k_is)
    (case c__law_draw => k_is)
    (case k__law_draw => k_is)
    (case a__law_plain => k_is)
    (case l__law_plain => k_is)
    (case c__law_plain => k_is)
    (case k__law_plain => k_is)
    (case a__law_names => k_is)
    (case l__law_names => k_is)
    (case c__law_names => k_is)
    (case k__law_names => k_is)
    (case a__law_is_name => k_is)
    (case l__law_is_name => k_is)
    (case c__law_is_name => k_is)
    (case k__law_is_name => k_is)
    (case a__law_is_full => k_is)
    (case l__law_is_full => k_is)
    (case c__law_is_full => k_is)
    (case k__law_is_full => k_is)
    (case a__law_expected_error => k_is)
    (case l__law_expected_error => k_is)
    (case c__law_expected_error => k_is)
    (case k__law_expected_error => k_is)
    (case a__law_raised => k_is)
    (case l__law_raised => k_is)
    (case c__law_raised => k_is)
    (case k__law_raised => k_is)
    (case a__law_shows => k_is)
    (case l__law_shows => k_is)
    (case c__law_shows => k_is)
    (case k__law_shows => k_is)
    (case a__law_hides => k_is)
    (case l__law_hides => k_is)
    (case c__law_hides => k_is)
    (case k__law_hides => k_is)
    (case a__law_reveals => k_is)
    (case l__law_reveals => k_is)
    (case c__law_reveals => k_is)
    (case k__law_reveals => k_is)
    (case a__law_moves_right => k_is)
    (case l__law_moves_right => k_is)
    (case c__law_moves_right => k_is)
    (case k__law_moves_right => k_is)
    (case a__law_others_right => k_is)
    (case l__law_others_right => k_is)
    (case c__law_others_right => k_is)
    (case k__law_others_right => k_is)
    (case a_law => k_is)
    (case l_law => k_is)
    (case c_law => k_is)
    (case k_law => k_is)
    (case z_LONGEST => k_is)
    (case z_LETTERS => k_is)
    (case z_LETTERS_AND_DIGITS => k_is)
    (case z_len => k_is)
    (case z_all => k_is)
    (case z_set => k_is)
    (case z_sorted => k_is)
    (case z_tuple => k_is)
    (case z_int => k_is)
    (case z_range => k_is)
    (case z_isinstance => k_is)
    (case z_ValueError => k_is)
    (case z_list => k_is)
    (case z_iter => k_is)
#print axioms PySem.Challenge.cw_shadowlinks_k02_parts_holds
