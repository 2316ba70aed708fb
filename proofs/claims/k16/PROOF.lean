import PyProof.Rows.All
import Wide.All
import OpenK.AllK
import Wide.FinOn
import HandS.ForExc
import PyProof.Rows.SortShellAny
import HandS.SetTxt0
import HandS.TupSets
import HandS.ForMost
import HandS.Walk
import HandS.IsInst
import HandS.IterVal
import HandS.Star
import HandS.Deep
import HandS.DictComp
import HandS.Zip
import HandS.ExcInit
import HandS.Nested
import KE.KExcSuper
import HandS.ExcField
import HandS.ExcIs
import KE.KExcIs
import HandS.WordsExc
import HandS.FStr
import HandS.Defaults
import HandS.CallSlots
import HandS.Wide
import HandS.Style
import KE.SortData
import HandS.OwnEq
import HandS.Property
import OpenK.KMeth
import OpenK.KOps
import KE.KOpsOwn
import KE.KOwnIter
import KE.KDictPairs
import HandS.Gcd
import HandS.Iter
import HandS.Conv
import HandS.TupAny
import PySem.Challenge.RW_shadowlinks_k16_differences_grow
set_option Elab.async false
set_option linter.all false
set_option maxRecDepth 100000
/-! Sets of texts, made of a list or a tuple, and sorted: any texts, in whatever order the world walks them. -/
namespace Sx
open PySem PySem.Spec PyProof.Rows L2 PySem.Froz

/-! ### lists -/
/-- a list without twins whose members all stand in a list of the same length is that list in another order -/
theorem perm_of_sub : ∀ (l ks : List Str), l.Nodup → (∀ x, x ∈ l → x ∈ ks) → ks.length = l.length → l.Perm ks
  | [], ks, _, _, e => by
    have z : ks = [] := List.length_eq_zero_iff.mp e
    rw [z]
  | x :: l, ks, nd, sub, e => by
    obtain ⟨hx, nd'⟩ := List.nodup_cons.mp nd
    have hm : x ∈ ks := sub x List.mem_cons_self
    have p := List.perm_cons_erase hm
    have hl : (ks.erase x).length = l.length := by
      have q := p.length_eq
      simp only [List.length_cons] at q e
      omega
    refine ((perm_of_sub l (ks.erase x) nd' (fun y hy => ?_) hl).cons x).trans p.symm
    have hne : y ≠ x := fun z => hx (z ▸ hy)
    exact (List.mem_erase_of_ne hne).mpr (sub y (List.mem_cons_of_mem _ hy))

/-! ### the payload behind an add -/
theorem tail_ris {ep : Nat} {es : Array (Int × Value)} {t : SetTable} {d : Bool} (r : Ris t.place.toList) : Ris (tailTx ep es t d).2.2.place.toList := by
  unfold tailTx
  split
  · exact relayAll_ris t es _
  · exact r
theorem tail_led {ep : Nat} {es : Array (Int × Value)} {t : SetTable} {d : Bool} : (tailTx ep es t d).2.2.led = t.led := by
  unfold tailTx
  split
  · exact relayAll_led t es _
  · rfl
theorem add_ris {D : SD} (h : Int) (v : Value) (r : Ris D.2.2.place.toList) : Ris (addTx h v D).2.2.place.toList := by
  have r1 := layNew_ris D.2.2 D.1 h v r
  unfold addTx
  apply tail_ris
  split
  · exact r1
  · exact r1
theorem add_led {D : SD} (h : Int) (v : Value) : (addTx h v D).2.2.led = D.2.2.led := by
  have r1 := layNew_led D.2.2 D.1 h v
  unfold addTx
  rw [tail_led]
  split
  · exact r1
  · exact r1

/-- the set of the texts l stands at a -/
def SetX (P : Program) (w : World) (h : Heap) (a : Addr) (l : List Str) : Prop :=
  ∃ D : SD, h.get? a = some (sObj "set" D) ∧ TxOk P w D l ∧ l.Nodup ∧ Ris D.2.2.place.toList ∧ (w.params.followText "set-order" = true ∨ D.2.2.led = true)

section
variable {P : Program} {w : World} {A : Around} {E : Value → Shared → Prop} {s : Shared}

theorem SetX.at {h h' : Heap} {a : Addr} {l : List Str} (R : SetX P w h a l) (k : ∀ o, h.get? a = some o → h'.get? a = some o) : SetX P w h' a l := by
  obtain ⟨D, ho, r⟩ := R
  exact ⟨D, k _ ho, r⟩
theorem setX_fresh {h : Heap} {a : Addr} (ho : h.get? a = some { cls := .type "set", dict := none, data := .set #[] 0 (.fresh 0 0 (!w.params.followText "set-order")) }) : SetX P w h a [] := by
  refine ⟨(#[], 0, .fresh 0 0 (!w.params.followText "set-order")), ho, TxOk.nil rfl, List.nodup_nil, List.Pairwise.nil, ?_⟩
  show _ ∨ (!w.params.followText "set-order") = true
  cases w.params.followText "set-order"
  · exact .inr rfl
  · exact .inl rfl

/-- one text more, new or there already -/
theorem add_any {a : Addr} {l : List Str} {k : Str} {u : Tok} {Q : Bool → Shared → Prop} (R : SetX P w s.heap a l) (hb : l.length + 1 < scanBound)
    (hQ : ∀ b h' l', Heap.SameBut a s.heap h' → SetX P w h' a l' → (∀ x, x ∈ l' ↔ x = k ∨ x ∈ l) → l'.length ≤ l.length + 1 → Q b { s with heap := h' }) :
    wpAny (model P w) A (setAddHashed a (.str k u) (hashStr w k)) Q E s := by
  obtain ⟨D, ho, F, nd, r, hl⟩ := R
  rcases Classical.em (k ∈ l) with hk | hk
  · obtain ⟨es, ep, t⟩ := D
    have hd : (sObj "set" (es, ep, t)).data = .set es ep t := rfl
    have hf : t.fits es.size = true := F.fit
    have hel : ElemsOf (PySem.strKind P w) es.toList := F.el
    have hb0 : es.size < scanBound := by
      have z : es.size = l.length := F.sz
      omega
    have hkey : (PySem.strKind P w).is k (.str k u) = true := is_str k u
    unfold setAddHashed setAddHashedIn
    refine wpAny_holding (wpAny_bind (wpAny_setState_of ho hd hf ?_))
    dsimp only
    rw [byScan_of rfl hb0 hel]
    simp only [↓reduceIte]
    unfold setAddByScan
    refine wpAny_bind ?_
    refine wpAny_bind (wpAny_rule ?_)
    refine wpAny_bind (wpAny_setScan_of (knd := PySem.strKind P w) (k := k) hkey ho hd hf hel ?_)
    cases hfi : List.findIdx? (fun e => (PySem.strKind P w).is k e.2) es.toList with
    | none =>
      obtain ⟨e, he, q⟩ := (F.mem k).mp hk
      have c := List.findIdx?_eq_none_iff.mp hfi e he
      rw [q] at c
      cases c
    | some j =>
      dsimp only
      refine wpAny_pure (wpAny_pure ?_)
      exact hQ _ s.heap l (Heap.SameBut.refl a s.heap) ⟨(es, ep, t), ho, F, nd, r, hl⟩ (fun x => ⟨.inr, fun z => z.elim (fun e => e ▸ hk) id⟩) (Nat.le_succ _)
  · refine add_x ho F hk hb (hQ _ _ (k :: l) (Heap.SameBut.update s.heap a _) ⟨_, get_upd _ ho rfl, add_ok u F, List.nodup_cons.mpr ⟨hk, nd⟩, add_ris _ _ r, ?_⟩ (fun x => List.mem_cons) (Nat.le_refl _))
    exact hl.imp id fun z => by
      rw [add_led]
      exact z
end

/-! ### set(xs): the loop -/
section
variable {P : Program} {w : World} {A : Around} {R : Result → Shared → Prop} {I : Addr} {fp wr : List Addr} {G : Array GenState → Array GenState → Prop} {n : Nat} {Pv : Nat → Value → Prop} {St : Nat → Shared → Prop}
theorem fill_loop (W : WalksS P w A.in1 I fp wr G n Pv St) (S : Addr) (hSf : S ∉ fp) (xs : List Str) (hn : xs.length = n) (hval : ∀ i v, Pv i v → ∃ t, v = .str (xs.getD i Str.empty) t) (hb : n + 1 < scanBound) :
    ∀ (k i : Nat) (s : Shared) (l : List Str), n - i = k → i ≤ n → St i s → SetX P w s.heap S l → (∀ x, x ∈ l ↔ x ∈ xs.take i) → l.length ≤ i →
      (∀ s' l', Moved (S :: wr) G s s' → SetX P w s'.heap S l' → (∀ x, x ∈ l' ↔ x ∈ xs) → l'.length ≤ n → R (.ok (.ret .none)) s') →
      codeAny (model P w) A (.builtin "set.update.loop" ⟨[.ref S, .ref I], []⟩) R s := by
  have hSw : S ∉ wr := fun h => hSf (W.sub _ h)
  have hsub : ∀ b ∈ wr, b ∈ S :: wr := fun b hb => List.mem_cons_of_mem _ hb
  intro k
  induction k with
  | zero =>
    intro i s l hk hi hst hS hm hlen hR
    have hin : i = n := by omega
    subst hin
    refine codeAny_builtin PyProof.Rows.F.entry_set_update_loop ?_
    rw [Around.under_plainId PyProof.Rows.F.plain_set_update_loop _]
    show wpAny _ A.in1 (pyNext (.ref I) >>= _) _ _ s
    refine wpAny_bind (W.done s _ _ hst fun s' hmv => ?_)
    show wpAny _ A.in1 (ret Value.none) _ _ s'
    refine wpAny_pure (hR s' l (hmv.mono hsub) (hS.at fun o e => hmv.heap S o hSw e) (fun x => ?_) hlen)
    rw [hm x, ← hn, List.take_length]
  | succ k ih =>
    intro i s l hk hi hst hS hm hlen hR
    have hlt : i < n := by omega
    refine codeAny_builtin PyProof.Rows.F.entry_set_update_loop ?_
    rw [Around.under_plainId PyProof.Rows.F.plain_set_update_loop _]
    show wpAny _ A.in1 (pyNext (.ref I) >>= _) _ _ s
    refine wpAny_bind (W.item i s _ _ hlt hst fun v s' hP hst' hmv => ?_)
    obtain ⟨t, rfl⟩ := hval i v hP
    have hS' : SetX P w s'.heap S l := hS.at fun o e => hmv.heap S o hSw e
    show wpAny _ A.in1 (holding [Value.str (xs.getD i Str.empty) t] (setAdd S (.str (xs.getD i Str.empty) t)) >>= _) _ _ s'
    refine wpAny_bind (wpAny_holding ?_)
    unfold setAdd
    refine wpAny_holding ?_
    refine wpAny_bind ((PySem.strKind P w).pyHash (k := xs.getD i Str.empty) (strKind_is _ _ _ _) ?_)
    have hroom : l.length + 1 < scanBound := by omega
    refine add_any (s := { s' with toks := s'.toks + 1 }) hS' hroom fun b h' l' hsb hS2 hm2 hl2 => ?_
    have hix : i < xs.length := by omega
    have eg : xs.getD i Str.empty = xs[i] := by
      rw [List.getD_eq_getElem?_getD, List.getElem?_eq_getElem hix]
      rfl
    have hm3 : ∀ x, x ∈ l' ↔ x ∈ xs.take (i + 1) := fun x => by
      rw [hm2 x, List.take_succ, List.getElem?_eq_getElem hix, eg]
      show _ ↔ x ∈ xs.take i ++ [xs[i]]
      rw [List.mem_append, List.mem_singleton, hm x]
      exact Or.comm
    refine wpAny_pure ⟨plainId_quiet PyProof.Rows.F.plain_set_update_loop _, ih (i + 1) _ l' (by omega) hlt (W.frame _ s' _ _ hst' (Nat.le_succ _) fun b hb o e => ?_) hS2 hm3 (by omega) fun s'' l'' hmv'' hS'' hm'' hl'' => ?_⟩
    · rw [hsb.2 b (fun h : b = S => hSf (by rw [← h]; exact hb))]
      exact e
    · refine hR s'' l'' (Moved.trans W.gtrans ((hmv.mono hsub).then_heap (Nat.le_succ _) fun b o hb e => ?_) hmv'') hS'' hm'' hl''
      rw [hsb.2 b (fun h : b = S => hb (by rw [h]; exact List.mem_cons_self))]
      exact e
end

/-! ### set(xs): the call -/
section
variable {P : Program} {w : World} {A : Around} {E : Value → Shared → Prop} {s : Shared}
abbrev emptyObj (w : World) : Obj := { cls := .type "set", dict := none, data := .set #[] 0 (.fresh 0 0 (!w.params.followText "set-order")) }
theorem str_at {us : List Value} {xs : List Str} (h : StrsAre us xs) : ∀ (i : Nat) (v : Value), us[i]? = some v → ∃ t, v = .str (xs.getD i Str.empty) t := by
  induction h with
  | nil =>
    intro i v e
    cases e
  | cons y t h ih =>
    intro i v e
    cases i with
    | zero =>
      have q : Value.str y t = v := Option.some.inj e
      exact ⟨t, q.symm⟩
    | succ i => exact ih i v e

set_option maxRecDepth 100000 in
set_option maxHeartbeats 4000000 in
/-- set(xs), xs a list or a tuple of texts -/
theorem call_set {l : Addr} {items : Array Value} {xs : List Str} {Q : Value → Shared → Prop} (hh : A.handled = none) (hl : s.heap.IsList l items ∨ s.heap.IsTuple l items) (hi : StrsAre items.toList xs) (hb : xs.length + 1 < scanBound)
    (h : ∀ (h' : Heap) (tk : Nat) (ys : List Str), SetX P w h' s.heap.objs.size ys → (∀ x, x ∈ ys ↔ x ∈ xs) → ys.length ≤ xs.length → (∀ b o, s.heap.get? b = some o → h'.get? b = some o) → Q (.ref s.heap.objs.size) { s with heap := h', toks := tk }) :
    wpAny (model P w) A (call (.type "set") [.ref l]) Q E s := by
  have hisz : xs.length = items.size := by rw [← StrsAre.len_eq hi, Array.length_toList]
  have hval : ∀ (i : Nat) (v : Value), items[i]? = some v → ∃ t, v = .str (xs.getD i Str.empty) t := fun i v hv => str_at hi i v (by rw [Array.getElem?_toList]; exact hv)
  obtain ⟨c, tl, hmro⟩ := PySem.F.called_set.mro
  have hmade := PySem.F.called_set.made
  have hsub := PySem.F.called_set.sub
  refine wpAny_call (codeAny_of_tree ?_)
  show wpAny _ _ (callAny (.type "set") _) _ _ _
  refine wpAny_pure ⟨Code.quiet_builtin _ (by decide +kernel), codeAny_builtin PySem.F.entry_type_call ?_⟩
  rw [Around.under_plain (weight_type_call_type "set" [.ref l] []) rfl]
  have h1 := PySem.F.called_set.notType
  have h2 := PySem.F.called_set.canCreate
  have hct := PySem.F.typeCall_set_1 (.ref l)
  repeat (any_goals (first | assumption | wp_step))
  refine codeAny_mono (code_set_led1 (.ref l) (E := E) (Q₁ := fun obj s₁ => obj = .ref s.heap.objs.size ∧ s₁ = { s with heap := s.heap.push (emptyObj w) }) ⟨rfl, rfl⟩) fun r s₁ hr => ?_
  cases r with
  | error e => exact hr
  | ok fl =>
    cases fl with
    | ret obj =>
      obtain ⟨rfl, rfl⟩ := hr
      have hS : (s.heap.push (emptyObj w)).get? s.heap.objs.size = some (emptyObj w) := Heap.get?_push_size _ rfl
      have hT : Shared.TypeIs { s with heap := s.heap.push (emptyObj w) } (.ref s.heap.objs.size) "set" := ⟨_, hS, rfl⟩
      have hli := PySem.F.called_set.init.lookup
      have hbi := PySem.F.called_set.init.bind (.ref s.heap.objs.size)
      repeat (any_goals (first | assumption | wp_step))
      refine codeAny_mono (codeAny_call_builtin (R := wants (fun r s₂ => r = .none ∧ ∃ h' tk ys, s₂ = { s with heap := h', toks := tk } ∧ SetX P w h' s.heap.objs.size ys ∧ (∀ x, x ∈ ys ↔ x ∈ xs) ∧ ys.length ≤ xs.length ∧
          (∀ b o, s.heap.get? b = some o → h'.get? b = some o)) E) PySem.F.called_set.init.plain PySem.F.entry_set_init (check_set_init_1 hT ?_)) fun r₂ s₂ hr₂ => ?_
      · have hh3 : A.in1.in1.in1.handled = none := by simp [hh]
        have hz1 : (s.heap.push (emptyObj w)).objs.size = s.heap.objs.size + 1 := Heap.size_push ..
        rcases hl with hl | hl
        · obtain ⟨ol, hol, hcl, nl, hdl⟩ := hl
          obtain ⟨ocls, odict, odata, oslots⟩ := ol
          simp only at hcl hdl
          subst hcl; subst hdl
          have hol' : (s.heap.push (emptyObj w)).get? l = some { cls := .type "list", dict := odict, data := .seq items nl, slots := oslots } := Heap.get?_push_of_some _ hol
          have hsls := PySem.F.sub_list_set
          have hslf := PySem.F.sub_list_frozenset
          have hne : (Value.type "list" == Value.type "dict") = false := by decide
          have hl1 : (s.heap.push (emptyObj w)).IsList l items := ⟨_, hol', rfl, nl, rfl⟩
          unfold Builtin.«set.__init__» noKeywords Builtin.Frozenset.updateFrom
          generalize hPI : pyIter = PI
          wp_walk
          subst hPI
          refine wpAny_pyIter_list hl1 ?_
          refine wpAny_bind (wpAny_runValue ?_)
          have hlS : l < s.heap.objs.size := Heap.lt_size hol
          have hneI : l ≠ (s.heap.push (emptyObj w)).objs.size := by
            rw [hz1]
            exact Nat.ne_of_lt (Nat.lt_succ_of_lt hlS)
          have hSf : s.heap.objs.size ∉ [(s.heap.push (emptyObj w)).objs.size, l] := by
            simp only [List.mem_cons, List.mem_singleton, List.not_mem_nil, or_false, not_or]
            rw [hz1]
            exact ⟨Nat.ne_of_lt (Nat.lt_succ_self _), Nat.ne_of_gt hlS⟩
          have hget : ((s.heap.push (emptyObj w)).push { cls := .type "list_iterator", data := .fields #[.ref l, .int 0 0] }).get? s.heap.objs.size = some (emptyObj w) := Heap.get?_push_of_some _ hS
          refine fill_loop ((Walks.list hh3 _ l hneI items).toS) s.heap.objs.size hSf xs hisz hval (by omega) (items.size - 0) 0 _ [] (by omega) (Nat.zero_le _)
            ⟨⟨_, Heap.get?_push_size _ rfl, rfl, rfl⟩, (hl1.push _)⟩ (setX_fresh hget) (fun x => Iff.rfl) (Nat.le_refl _) ?hR
          case hR =>
            intro s' ys hm hS' hmm hlen
            obtain ⟨h', g', d', tk', os'⟩ := s'
            have eg : g' = s.gens := hm.gens
            have ed : d' = s.drawn := hm.drawn
            have eo : os' = s.os := hm.os
            subst eg; subst ed; subst eo
            show wpAny _ _ _ _ _ _
            refine wpAny_pure ?_
            show wpAny _ _ (ret Value.none) _ _ _
            refine wpAny_pure ⟨rfl, h', tk', ys, rfl, hS', hmm, by omega, fun b o e => ?_⟩
            have hb0 : b < s.heap.objs.size := Heap.lt_size e
            refine hm.heap b o ?_ (Heap.get?_push_of_some _ (Heap.get?_push_of_some _ e))
            simp only [List.mem_cons, List.mem_singleton, List.not_mem_nil, or_false, not_or]
            rw [hz1]
            exact ⟨Nat.ne_of_lt hb0, Nat.ne_of_lt (Nat.lt_succ_of_lt hb0)⟩
        · obtain ⟨ol, hol, hcl, nl, hdl⟩ := hl
          obtain ⟨ocls, odict, odata, oslots⟩ := ol
          simp only at hcl hdl
          subst hcl; subst hdl
          have hol' : (s.heap.push (emptyObj w)).get? l = some { cls := .type "tuple", dict := odict, data := .seq items nl, slots := oslots } := Heap.get?_push_of_some _ hol
          have hsls := PySem.F.sub_tuple_set
          have hslf := PySem.F.sub_tuple_frozenset
          have hne : (Value.type "tuple" == Value.type "dict") = false := by decide
          have hl1 : (s.heap.push (emptyObj w)).IsTuple l items := ⟨_, hol', rfl, nl, rfl⟩
          unfold Builtin.«set.__init__» noKeywords Builtin.Frozenset.updateFrom
          generalize hPI : pyIter = PI
          wp_walk
          subst hPI
          refine wpAny_pyIter_tuple hl1 ?_
          refine wpAny_bind (wpAny_runValue ?_)
          have hlS : l < s.heap.objs.size := Heap.lt_size hol
          have hneI : l ≠ (s.heap.push (emptyObj w)).objs.size := by
            rw [hz1]
            exact Nat.ne_of_lt (Nat.lt_succ_of_lt hlS)
          have hSf : s.heap.objs.size ∉ [(s.heap.push (emptyObj w)).objs.size, l] := by
            simp only [List.mem_cons, List.mem_singleton, List.not_mem_nil, or_false, not_or]
            rw [hz1]
            exact ⟨Nat.ne_of_lt (Nat.lt_succ_self _), Nat.ne_of_gt hlS⟩
          have hget : ((s.heap.push (emptyObj w)).push { cls := .type "tuple_iterator", data := .fields #[.ref l, .int 0 0] }).get? s.heap.objs.size = some (emptyObj w) := Heap.get?_push_of_some _ hS
          refine fill_loop ((Walks.tuple hh3 _ l hneI items).toS) s.heap.objs.size hSf xs hisz hval (by omega) (items.size - 0) 0 _ [] (by omega) (Nat.zero_le _)
            ⟨⟨_, Heap.get?_push_size _ rfl, rfl, rfl⟩, (hl1.push _)⟩ (setX_fresh hget) (fun x => Iff.rfl) (Nat.le_refl _) ?hR
          case hR =>
            intro s' ys hm hS' hmm hlen
            obtain ⟨h', g', d', tk', os'⟩ := s'
            have eg : g' = s.gens := hm.gens
            have ed : d' = s.drawn := hm.drawn
            have eo : os' = s.os := hm.os
            subst eg; subst ed; subst eo
            show wpAny _ _ _ _ _ _
            refine wpAny_pure ?_
            show wpAny _ _ (ret Value.none) _ _ _
            refine wpAny_pure ⟨rfl, h', tk', ys, rfl, hS', hmm, by omega, fun b o e => ?_⟩
            have hb0 : b < s.heap.objs.size := Heap.lt_size e
            refine hm.heap b o ?_ (Heap.get?_push_of_some _ (Heap.get?_push_of_some _ e))
            simp only [List.mem_cons, List.mem_singleton, List.not_mem_nil, or_false, not_or]
            rw [hz1]
            exact ⟨Nat.ne_of_lt hb0, Nat.ne_of_lt (Nat.lt_succ_of_lt hb0)⟩
      · cases r₂ with
        | error e => exact hr₂
        | ok fl₂ =>
          cases fl₂ with
          | ret r =>
            obtain ⟨rfl, h', tk, ys, rfl, hS', hmm, hlen, hk'⟩ := hr₂
            repeat (any_goals (first | assumption | wp_step))
            exact h _ _ _ hS' hmm hlen hk'
          | _ => exact hr₂.elim
    | _ => exact hr.elim

/-! ### sorted(set) -/
theorem strs_of : ∀ (l : List Value), (∀ v ∈ l, ∃ k tk, v = Value.str k tk) → StrsAre l (l.map strOf)
  | [], _ => .nil
  | v :: l, h => by
    obtain ⟨k, tk, rfl⟩ := h v List.mem_cons_self
    exact .cons k tk (strs_of l fun u hu => h u (List.mem_cons_of_mem _ hu))
theorem sorted_setX {a : Addr} {l : List Str} {Q : Value → Shared → Prop} (R : SetX P w s.heap a l) (hh : A.handled = none) (hlen : l.length + 1 < scanBound)
    (hQ : ∀ s' p (out : Array Value) (c : Nat) (ys : List Str), (∀ b o, s.heap.get? b = some o → s'.heap.get? b = some o) → s'.gens = s.gens → s'.os = s.os → s.heap.objs.size ≤ p →
      s'.heap.get? p = some (seqObj "list" out c) → StrsAre out.toList ys → sortedS ys = true → ys.Perm l → Q (.ref p) s') :
    wpAny (model P w) A (call (.builtin "sorted") [.ref a]) Q E s := by
  obtain ⟨⟨es, ep, t⟩, ho, F, nd, r, hl⟩ := R
  have hf : t.fits es.size = true := F.fit
  have hsz : es.size = l.length := F.sz
  refine Calls.call_function_entry kind_sorted plain_sorted entry_sorted (args_sorted1 _) ?_
  unfold Builtin.«sorted»
  refine wpAny_bind (m := checkCount "sorted" 1 1 _) (wpAny_pure ?_)
  refine wpAny_bind (collect_set (A := A.in1) hh ⟨_, ho, rfl, rfl⟩ hf (by show es.size < scanBound; rw [hsz]; omega) r hl fun s1 vs k1 hz g1 o1 pm => ?_)
  have hvl : vs.length = l.length := by rw [pm.length_eq, List.length_map, Array.length_toList]; exact hsz
  have hst : ∀ v ∈ vs, ∃ k tk, v = Value.str k tk ∧ k ∈ l := fun v hv => by
    obtain ⟨e, he, q⟩ := List.mem_map.mp (pm.mem_iff.mp hv)
    obtain ⟨⟨k, h1, _⟩, _⟩ := F.el e he
    obtain ⟨tk, h2⟩ := Value.isStrOf_shape h1
    exact ⟨k, tk, by rw [← q]; exact h2, (F.mem k).mpr ⟨e, he, h1⟩⟩
  have hI : StrsAre vs (vs.map strOf) := strs_of vs fun v hv => let ⟨k, tk, e, _⟩ := hst v hv; ⟨k, tk, e⟩
  have pk : (vs.map strOf).Perm l := by
    refine (perm_of_sub l (vs.map strOf) nd (fun x hx => ?_) (by rw [List.length_map, hvl])).symm
    obtain ⟨e, he, h1⟩ := (F.mem x).mp hx
    obtain ⟨tk, h2⟩ := Value.isStrOf_shape h1
    exact List.mem_map.mpr ⟨e.2, pm.mem_iff.mpr (List.mem_map.mpr ⟨e, he, rfl⟩), by rw [h2]; rfl⟩
  have hline : vs.length ≤ sizeLine := by
    rw [hvl, sizeLine_eq]
    have z : scanBound = 4096 := rfl
    omega
  refine wpAny_bind (wpAny_newList ?_ hline)
  have hoL : (s1.heap.push (seqObj "list" vs.toArray 0)).get? s1.heap.objs.size = some (seqObj "list" vs.toArray 0) := Heap.get?_push_size _ rfl
  refine wpAny_bind (wpAny_holding (wpAny_call_entry slot_list_sort ⟨_, hoL, rfl⟩ entry_list_sort (list_sort_treeKAny strKind_oneLt hoL hI.keysOf (fun v₁ v₂ rest e => keyKind_strs (by rw [← e]; exact hI)) hline fun st' hp hs => ⟨_, rfl, ?_⟩) (args_list_sort _)))
  obtain ⟨ys, a1, a2, a3⟩ := sorted_out_str hI hp hs
  obtain ⟨c, hc⟩ := sortedHeap_at (vs := vs) (out := (arrOf st').map (·.2)) hoL
  refine wpAny_pure ⟨_, rfl, hQ _ s1.heap.objs.size _ c ys (fun b u e => ?_) g1 o1 hz hc a1 a3 (a2.trans pk)⟩
  have q := k1 b u e
  have hlt := Heap.lt_size q
  show (sortedHeap (s1.heap.push (seqObj "list" vs.toArray 0)) s1.heap.objs.size vs _).get? b = some u
  rw [sortedHeap_old (Nat.ne_of_lt hlt) (by rw [size_push']; exact Nat.lt_succ_of_lt hlt)]
  exact Heap.get?_push_of_some _ q
end

/-! ### over the layer -/
def SetV (P : Program) (w : World) (a : Addr) (l : List Str) : HO := .ext fun h => SetX P w h a l
section
variable {X : Cx}
theorem setV_new {P : Program} {w : World} {H : Hp} {h : Heap} {a : Addr} {l : List Str} (R : SetX P w h a l) : ObjOk P w H h a (SetV P w a l) := by
  have ⟨o, ho, _⟩ := R
  exact ⟨R, ⟨_, ho⟩, fun h1 h2 p k => SetX.at p k⟩
/-- set(xs), xs a list or a tuple of texts -/
def rSetX (K : PySem.W.Frag) (P : Program) (w : World) : List V → Hp → VK → Prop := fun vs H Q => ∃ (a : Addr) (xs : List Str), vs = [V.ref a] ∧ (SqL K H a (xs.map V.str) ∨ SqT K H a (xs.map V.str)) ∧ xs.length < 4000 ∧
  ∀ p ys, H p = none → (∀ x, x ∈ ys ↔ x ∈ xs) → ys.Nodup → ys.length ≤ xs.length → Q (.ref p) (upd H p (SetV P w p ys))
theorem cr_setX (hc : X.calm = true) : CallR X (.type "set") (rSetX X.K X.prog X.w) := by
  intro pins s σ H vs us Q I r h
  obtain ⟨a, xs, rfl, hs, hlen, q⟩ := h
  rw [Vals.ref1 r]
  have hn : H s.heap.objs.size = none := I.hok.fresh (Nat.le_refl _)
  have hz : xs.length + 1 < scanBound := by
    have z : scanBound = 4096 := rfl
    omega
  obtain ⟨its, rv, pl⟩ : ∃ its : List Value, Vals (xs.map V.str) its ∧ (s.heap.IsList a its.toArray ∨ s.heap.IsTuple a its.toArray) := by
    rcases hs with hs | hs
    · obtain ⟨its, rv, pl, _⟩ := I.list hs
      exact ⟨its, rv, .inl pl.isList⟩
    · obtain ⟨its, rv, pl, _⟩ := I.tuple hs
      exact ⟨its, rv, .inr pl⟩
  refine call_set (P := X.prog) (w := X.w) (I.ok.hd hc) pl (by simpa using rv.strs) hz fun h' tk ys R hm hl k => ?_
  have nd : ys.Nodup := by
    obtain ⟨_, _, _, z, _⟩ := R
    exact z
  exact ⟨.ref s.heap.objs.size, upd H s.heap.objs.size (SetV X.prog X.w s.heap.objs.size ys), I.laid (t' := tk) k (Nat.le_refl _) (setV_new R), rfl, q _ ys hn hm nd hl⟩
/-- sorted(a set of texts) -/
def rSortX (P : Program) (w : World) : List V → Hp → VK → Prop := fun vs H Q => ∃ (a : Addr) (l : List Str), vs = [V.ref a] ∧ H a = some (SetV P w a l) ∧ l.length < 4000 ∧
  ∀ ys p, ys.Perm l → sortedS ys = true → H p = none → Q (.ref p) (upd H p (.lst (ys.map V.str)))
theorem cr_sortX (hc : X.calm = true) : CallR X (.builtin "sorted") (rSortX X.prog X.w) := by
  intro pins s σ H vs us Q I r h
  obtain ⟨a, l, rfl, ha, hlen, q⟩ := h
  have R : SetX X.prog X.w s.heap a l := (I.hok a _ ha).1
  rw [Vals.ref1 r]
  have hz : l.length + 1 < scanBound := by
    have z : scanBound = 4096 := rfl
    omega
  refine sorted_setX R (I.ok.hd hc) hz fun s' p out c ys k g o hp hg hi hs pm => ?_
  have hl2 : (ys.map V.str).length ≤ sizeLine := by
    rw [List.length_map, pm.length_eq, sizeLine_eq]
    omega
  have hn : H p = none := I.hok.fresh hp
  have J : Inv X pins σ (upd H p (.lst (ys.map V.str))) { s with heap := s'.heap, gens := s'.gens, drawn := s'.drawn, toks := s'.toks } :=
    I.call (ch := []) (Un.laid k hp hn) (I.hok.laid k hp ⟨hl2, out.toList, c, vals_of_strs hi, hg⟩) (by rw [g]; exact I.bare) (fun _ z => nomatch z)
  have e : s' = { s with heap := s'.heap, gens := s'.gens, drawn := s'.drawn, toks := s'.toks } := by
    cases s'
    cases s
    cases o
    rfl
  rw [e]
  exact ⟨.ref p, _, J, rfl, q ys p pm hs hn⟩
end
end Sx
/-! Calls of the module's own defs by their promises, walks over a list or a tuple, data that stays. -/
namespace Bx
open PySem PySem.Spec PyProof.Rows L2 TL

/-- the module's name x holds a def that keeps sp, by at most level k -/
structure Cal (P : Program) (w : World) (K : PySem.W.Frag) (mg : Str → Option Value) (base : Heap) (x : Str) (k : Nat) (ps : List Str) (sp : Sp) : Prop where
  ex : ∃ (f : Addr) (fd : FuncData), FnOk P w K mg base CX0 k f fd ps sp ∧ mg x = some (.ref f) ∧ PySem.W.keepIn K (.ref f) = true ∧ Binds K fd ps []
/-- the same of a def with a star parameter alone -/
structure CalR (P : Program) (w : World) (K : PySem.W.Frag) (mg : Str → Option Value) (base : Heap) (x : Str) (k : Nat) (sp : Sp) : Prop where
  ex : ∃ f : Addr, FnR P w K mg base CX0 k f sp ∧ mg x = some (.ref f) ∧ PySem.W.keepIn K (.ref f) = true
section
variable {X : Cx} {x : Str} {k : Nat} {ps : List Str} {sp : Sp} {e : Expr} {es : List Expr} {t : TA} {p pos : Pos}
def tCal (sp : Sp) (t : TA) : TE := fun σ H Q => t σ H fun vs H1 => sp vs H1 Q E0
theorem pe_cal (c : Cal X.prog X.w X.K X.mg X.base x k ps sp) (hr : Room k X.A) (ha : PA X (e :: es) t) (hg : Gl X x := by rfl) (hdb : (x == ("__debug__" : Str)) = false := by decide)
    (he : starEach (e :: es) X.env = (false, eval e X.env) :: starEach es X.env := by rfl) (hpl : (backTo pos (starEach es X.env)).any (·.1) = false := by rfl) : PE X (.Call (.Name x p) (e :: es) [] pos) (tCal sp t) := by
  obtain ⟨f, fd, ok, g, kp, b⟩ := c.ex
  have z := pe_call (E := E0) ok hr hg g kp b .nil pass0 ha hdb he hpl (p := p)
  refine ⟨fun pins s σ H Q I h => z.run pins s σ H Q I ?_⟩
  unfold tCall
  simp only [List.append_nil]
  exact h
theorem pe_cal0 (c : Cal X.prog X.w X.K X.mg X.base x k ps sp) (hr : Room k X.A) (hg : Gl X x := by rfl) (hdb : (x == ("__debug__" : Str)) = false := by decide) : PE X (.Call (.Name x p) [] [] pos) (tCal sp tNil) := by
  obtain ⟨f, fd, ok, g, kp, b⟩ := c.ex
  have z := pe_call0 (E := E0) (pos := pos) ok hr hg g kp b .nil pass0 hdb (p := p)
  refine ⟨fun pins s σ H Q I h => z.run pins s σ H Q I ?_⟩
  exact h
theorem pe_calR (c : CalR X.prog X.w X.K X.mg X.base x k sp) (hr : Room k X.A) (ha : PA X (e :: es) t) (hg : Gl X x := by rfl) (hdb : (x == ("__debug__" : Str)) = false := by decide)
    (he : starEach (e :: es) X.env = (false, eval e X.env) :: starEach es X.env := by rfl) (hpl : (backTo pos (starEach es X.env)).any (·.1) = false := by rfl) : PE X (.Call (.Name x p) (e :: es) [] pos) (tCal sp t) := by
  obtain ⟨f, ok, g, kp⟩ := c.ex
  refine ⟨fun pins s σ H Q I h => ?_⟩
  refine wpAny_Call_Name_kw (ld_glob I hg g ?_ hdb)
  refine PySem.W.callWith_K (h₀ := X.base) I.ok.mod.kin kp (thn (ha.run pos pins s σ H _ I h) fun us s1 ⟨vs, H1, I1, r, q⟩ => ⟨I1.kIn, ?_⟩) he hpl
  exact wpAny_call (run_fnR ok hr pass0 I1 r q)
theorem pe_calR0 (c : CalR X.prog X.w X.K X.mg X.base x k sp) (hr : Room k X.A) (hg : Gl X x := by rfl) (hdb : (x == ("__debug__" : Str)) = false := by decide) : PE X (.Call (.Name x p) [] [] pos) (tCal sp tNil) := by
  obtain ⟨f, ok, g, kp⟩ := c.ex
  refine ⟨fun pins s σ H Q I h => ?_⟩
  refine wpAny_Call_Name_kw (ld_glob I hg g ?_ hdb)
  exact PySem.W.callWith_K0 I.kIn kp (wpAny_call (run_fnR ok hr pass0 I .nil h))

/-- x(*y) -/
theorem pe_calS {te : TE} {sp_ : Pos} (c : CalR X.prog X.w X.K X.mg X.base x k sp) (hr : Room k X.A) (he : PE X e te) (hg : Gl X x := by rfl) (hdb : (x == ("__debug__" : Str)) = false := by decide) (hst : starEach [.Starred e sp_] X.env = [(true, eval e X.env)] := by rfl) :
    PE X (.Call (.Name x p) [.Starred e sp_] [] pos) (fun σ H Q => te σ H fun y H1 => ∃ a xs, y = V.ref a ∧ (SqT X.K H1 a xs ∨ SqL X.K H1 a xs) ∧ sp xs H1 Q E0) := by
  obtain ⟨f, ok, g, kp⟩ := c.ex
  exact StX.pe_callS1 ok hr kp hg g pass0 he hdb hst

/-- a walk over a list or a tuple -/
def SeqCase (K : PySem.W.Frag) (a : Addr) (H : Hp) (R : It → Hp → Prop) : Prop := ((∃ xs, SqL K H a xs) ∧ R (Itl K a) H) ∨ ((∃ xs, SqT K H a xs) ∧ R (Itt K a) H)
def iSeq (K : PySem.W.Frag) (tl : TE) : TI := fun σ H R => tl σ H fun x H1 => ∃ a, x = .ref a ∧ SeqCase K a H1 R
theorem pi_seq {tg l : Expr} {tl : TE} (hl : PE X l tl) : PI X tg l (iSeq X.K tl) := by
  refine ⟨fun pins s σ H R I h => ?_⟩
  refine thn (hl.run pins s σ H _ I h) fun v s1 ⟨x, H1, I1, r1, q1⟩ => ?_
  obtain ⟨a, e, q1⟩ := q1
  subst e
  cases r1
  rcases q1 with ⟨⟨xs, hq⟩, q⟩ | ⟨⟨xs, hq⟩, q⟩
  · obtain ⟨its, rv, p, hz⟩ := I1.list hq
    refine wpAny_pyIter_list p.isList ?_
    exact pi_one (tk := s1.toks) I1 _ (turn_list a _) ⟨_, Heap.get?_push_size _ rfl, rfl, rfl⟩ q
  · obtain ⟨its, rv, p, hz⟩ := I1.tuple hq
    refine wpAny_pyIter_tuple (show s1.heap.IsTuple a its.toArray from p) ?_
    exact pi_one (tk := s1.toks) I1 _ (turn_tuple a _) ⟨_, Heap.get?_push_size _ rfl, rfl, rfl⟩ q
end

/-! ### rules with the written part named (within a block) -/
section
variable {X : Cx} {K : PySem.W.Frag}
theorem ix_listK (h : X.K = K) : IxR X (rIxL K) := h ▸ ix_list
theorem ix_tupK (h : X.K = K) : IxR X (rIxT K) := h ▸ ix_tup
theorem op_in_seqK (h : X.K = K) : OpR X (compareOp .In) (rIn K false) := h ▸ op_in_seq
theorem call_list_ofK (h : X.K = K) : CallR X (.type "list") (fun xs H Q => ∃ p ys, xs = [.ref p] ∧ (SqL K H p ys ∨ SqT K H p ys) ∧ ∀ l, H l = none → Q (.ref l) (upd H l (.lst ys))) := by
  subst h
  exact call_list_of
theorem call_tuple_ofK (h : X.K = K) : CallR X (.type "tuple") (fun xs H Q => ∃ p ys, xs = [.ref p] ∧ ((SqL K H p ys ∧ ∀ l, H l = none → Q (.ref l) (upd H l (.tup ys))) ∨ (SqT K H p ys ∧ Q (.ref p) H))) := by
  subst h
  exact call_tuple_of
theorem call_len_seqK (h : X.K = K) : CallR X (.builtin "len") (fun xs H Q => ∃ p ys, xs = [.ref p] ∧ (SqL K H p ys ∨ SqT K H p ys) ∧ Q (.int ys.length) H) := by
  subst h
  exact call_len_seq
theorem cr_allK (h : X.K = K) (hc : X.calm = true) : CallR X (.builtin "all") (rAll K) := by
  subst h
  exact cr_all hc
theorem pg_tupK {es : List Expr} {k : Nat} {t : TGs} {n : Nat} {pos : Pos} (h : X.K = K) (hc : X.calm = true) (hs : PGs X es t)
    (hn : (assignEach es X.env).length = n := by rfl) (hst : (assignEach es X.env).findIdx? (·.1) = none := by rfl) : PG X (.Tuple es k pos) (gTup K n t) := by
  subst h
  exact pg_tup hc hs hn hst
theorem op_notIn_seqK (h : X.K = K) : OpR X (compareOp .NotIn) (rIn K true) := h ▸ op_notIn_seq
end

/-! ### heaps -/
theorem same_new {H : Hp} {p : Addr} {o : HO} (h : H p = none) : Same H (upd H p o) := fun b x e => by
  rw [upd_ne (ne_of_none e h)]
  exact e
theorem same_at {H H2 : Hp} {p : Addr} {o : HO} (h : H p = none) (s : Same H H2) : Same H (upd H2 p o) := fun b x e => by
  rw [upd_ne (ne_of_none e h)]
  exact s b x e
theorem Same.tup {K : PySem.W.Frag} {H H' : Hp} {a : Addr} {xs : List V} (e : Same H H') (h : SqT K H a xs) : SqT K H' a xs := by
  rcases h with (h | ⟨o, h⟩) | h
  · exact .inl (.inl (e _ _ h))
  · exact .inl (.inr ⟨o, e _ _ h⟩)
  · exact .inr h
theorem sq {K : PySem.W.Frag} {H : Hp} {a : Addr} {xs : List V} (h : H a = some (.lst xs)) : SqL K H a xs := Or.inl (Or.inl h)
theorem sqt {K : PySem.W.Frag} {H : Hp} {a : Addr} {xs : List V} (h : H a = some (.tup xs)) : SqT K H a xs := Or.inl (Or.inl h)
/-- all that was tracked but a is as it was -/
def SameBut (a : Addr) (H H' : Hp) : Prop := ∀ b o, b ≠ a → H b = some o → H' b = some o
theorem SameBut.refl (a : Addr) (H : Hp) : SameBut a H H := fun _ _ _ h => h
theorem SameBut.trans {a : Addr} {H H1 H2 : Hp} (x : SameBut a H H1) (y : SameBut a H1 H2) : SameBut a H H2 := fun b o n h => y b o n (x b o n h)
theorem Same.but {a : Addr} {H H' : Hp} (x : Same H H') : SameBut a H H' := fun b o _ h => x b o h
theorem SameBut.upd {a : Addr} {H : Hp} {o : HO} : SameBut a H (upd H a o) := fun b x n h => by
  rw [upd_ne n]
  exact h
/-- new objects do not disturb: what was tracked at H, where a was not -/
theorem SameBut.same {a : Addr} {H H1 H2 : Hp} (x : Same H H1) (n : H a = none) (y : SameBut a H1 H2) : Same H H2 := fun b o h => y b o (ne_of_none h n) (x b o h)
theorem sz {n : Nat} (h : n ≤ 100000) : n ≤ sizeLine := Nat.le_trans h (by decide)
theorem szl {n : Nat} (h : n < 100000) : n < sizeLine := Nat.lt_of_lt_of_le h (by decide)
/-- the source of draws at a -/
def Src (H : Hp) (a : Addr) : Prop := ∃ n c : Int, H a = some (.lst [.int n, .int c])

/-! ### data -/
mutual
theorem dp_same {K : PySem.W.Frag} {H H' : Hp} (e : Same H H') : ∀ {v : V} {d : PyData}, Dp K H v d → Dp K H' v d
  | _, _, .non => .non
  | _, _, .bl b => .bl b
  | _, _, .int i => .int i
  | _, _, .str x => .str x
  | _, _, .lst h a => .lst (e.seq h) (dpAll_same e a)
  | _, _, .tup h a => .tup (Bx.Same.tup e h) (dpAll_same e a)
theorem dpAll_same {K : PySem.W.Frag} {H H' : Hp} (e : Same H H') : ∀ {vs : List V} {ds : List PyData}, DpAll K H vs ds → DpAll K H' vs ds
  | _, _, .nil => .nil
  | _, _, .cons h a => .cons (dp_same e h) (dpAll_same e a)
end
theorem dp_strs {K : PySem.W.Frag} {H : Hp} : ∀ ys : List Str, DpAll K H (ys.map V.str) (ys.map PyData.str)
  | [] => .nil
  | y :: ys => .cons (.str y) (dp_strs ys)
theorem dp_ints {K : PySem.W.Frag} {H : Hp} : ∀ ys : List Int, DpAll K H (ys.map V.int) (ys.map PyData.int)
  | [] => .nil
  | y :: ys => .cons (.int y) (dp_ints ys)
theorem dp_map {K : PySem.W.Frag} {H : Hp} {α : Type} {f : α → V} {g : α → PyData} : ∀ {l : List α}, (∀ x ∈ l, Dp K H (f x) (g x)) → DpAll K H (l.map f) (l.map g)
  | [], _ => .nil
  | x :: l, h => .cons (h x List.mem_cons_self) (dp_map fun y hy => h y (List.mem_cons_of_mem _ hy))

/-! ### walks with any body -/
theorem walk_any {J : It} {n : Nat} {G : Hp → Prop} {Y : Nat → Hp → V → Hp → Prop} (w : Walk J n G Y) {Z : Hp → Prop} {B : (Hp → Prop) → V → Hp → Prop} {H0 : Hp} (Pv : Nat → Hp → Prop) (h0 : Pv 0 H0) (hG : ∀ i H, i ≤ n → Pv i H → G H)
    (hs : ∀ i x H H', i < n → Pv i H → Y i H x H' → B (Pv (i + 1)) x H') (hd : ∀ H, Pv n H → Z H) :
    ∃ W : Nat → Nat → Hp → Prop, (∃ m, W 0 m H0) ∧ ∀ i m H, W i m H → (J.stop i H ∧ Z H) ∨ (J.go i H ∧ ∃ Nx : Hp → Prop, (∀ H', Nx H' → ∃ m', m' < m ∧ W (i + 1) m' H') ∧ ∀ x H', J.yld i H x H' → B Nx x H') := by
  refine ⟨fun i m H => m = n - i ∧ i ≤ n ∧ Pv i H, ⟨n, by simp, Nat.zero_le _, h0⟩, ?_⟩
  rintro i m H ⟨rfl, hi, p⟩
  have q := hG i H hi p
  by_cases hlt : i < n
  · exact .inr ⟨w.goes i H hlt q, Pv (i + 1), fun H' p' => ⟨n - (i + 1), by omega, rfl, hlt, p'⟩, fun x H' y => hs i x H H' hlt p (w.yields i H x H' hlt q y)⟩
  · have e : i = n := by omega
    subst e
    exact .inl ⟨w.stops H q, hd H p⟩

/-! ### a def with a star parameter alone -/
theorem okStar {P : Program} {w : World} {K : PySem.W.Frag} {mg : Str → Option Value} {base : Heap} {x qual pn : Str} {st : Stmt} {f : Addr} {fd : FuncData} {N : List Str} {k : Nat} {sp : Sp} (F : Fun K x qual st f fd) (S : FnScope N [pn] (defScope st))
    (hb : ∀ (kV doc pm : Value) (an : Option Addr) (cdv ct : Value) (rest : List Value), bindArgs (PySem.W.fnOf x qual (defArgs st) (defBody st) (defScope st) .none kV doc pm an cdv ct) ⟨rest, []⟩ = (newTuple rest >>= fun t => pure [(pn, t)]))
    (hbody : ∀ (cdv : Value) (A : Around) (outer : List Env) (s : Shared) (H : Hp) (vs : List V) (Q : VK) (E : XK), Room k (A.deeper (envOfC qual (defScope st) s.heap.objs.size f cdv)) → sp vs H Q E →
      ∃ t, PSs (cxOf CX0 P w K mg base N qual (defScope st) f cdv A outer s H E) (defBody st) t ∧ t { nx := fun _ H' => Q .non H', rt := Q } (start N vs) H) :
    FnR P w K mg base CX0 (k + 1) f (fun vs H Q E => vs.length ≤ sizeLine ∧ ∀ p, H p = none → sp [V.ref p] (upd H p (.tup vs)) Q E) := by
  obtain ⟨oc, od, kV, doc, pm, an, cdv, ct, osl, rfl, lk, hcd⟩ := F.ex
  have z := StX.fn_star (P := P) (w := w) (K := K) (mg := mg) (base := base) (CX := CX0) (ps := []) (sp := sp) lk hcd S StX.cxUp_none (fun us rest hl => by
    have e : us = [] := List.length_eq_zero_iff.mp hl
    subst e
    exact hb kV doc pm an cdv ct rest) (hbody cdv)
  exact z.imp fun vs H Q E h => ⟨[], vs, rfl, rfl, h.1, h.2⟩

/-- one parameter ahead of the star -/
theorem okStar1 {P : Program} {w : World} {K : PySem.W.Frag} {mg : Str → Option Value} {base : Heap} {x qual p1 pn : Str} {st : Stmt} {f : Addr} {fd : FuncData} {N : List Str} {k : Nat} {sp : Sp} (F : Fun K x qual st f fd) (S : FnScope N [p1, pn] (defScope st))
    (h0 : ∀ (kV doc pm : Value) (an : Option Addr) (cdv ct a : Value), bindArgs (PySem.W.fnOf x qual (defArgs st) (defBody st) (defScope st) .none kV doc pm an cdv ct) ⟨[a], []⟩ = (newTuple [] >>= fun t => pure [(p1, a), (pn, t)]))
    (h1 : ∀ (kV doc pm : Value) (an : Option Addr) (cdv ct a r : Value) (rs : List Value), bindArgs (PySem.W.fnOf x qual (defArgs st) (defBody st) (defScope st) .none kV doc pm an cdv ct) ⟨a :: r :: rs, []⟩ = (newTuple (r :: rs) >>= fun t => pure [(p1, a), (pn, t)]))
    (hbody : ∀ (cdv : Value) (A : Around) (outer : List Env) (s : Shared) (H : Hp) (vs : List V) (Q : VK) (E : XK), Room k (A.deeper (envOfC qual (defScope st) s.heap.objs.size f cdv)) → sp vs H Q E →
      ∃ t, PSs (cxOf CX0 P w K mg base N qual (defScope st) f cdv A outer s H E) (defBody st) t ∧ t { nx := fun _ H' => Q .non H', rt := Q } (start N vs) H) :
    FnR P w K mg base CX0 (k + 1) f (fun vs H Q E => ∃ v rest, vs = v :: rest ∧ rest.length ≤ sizeLine ∧ ∀ p, H p = none → sp [v, V.ref p] (upd H p (.tup rest)) Q E) := by
  obtain ⟨oc, od, kV, doc, pm, an, cdv, ct, osl, rfl, lk, hcd⟩ := F.ex
  have z := StX.fn_star (P := P) (w := w) (K := K) (mg := mg) (base := base) (CX := CX0) (ps := [p1]) (sp := sp) lk hcd S StX.cxUp_none
    (StX.bind_star1 (B := fun us => bindArgs (PySem.W.fnOf x qual (defArgs st) (defBody st) (defScope st) .none kV doc pm an cdv ct) ⟨us, []⟩) (h0 kV doc pm an cdv ct) (h1 kV doc pm an cdv ct)) (hbody cdv)
  exact z.imp fun vs H Q E ⟨v, rest, e, hl, h⟩ => ⟨[v], rest, e, rfl, hl, h⟩

/-! ### a walk over a list or a tuple, told once -/
theorem seq_case {K : PySem.W.Frag} {H : Hp} {a : Addr} {xs : List V} {R : It → Hp → Prop} (h : SqL K H a xs ∨ SqT K H a xs) (k : ∀ (J : It) (G : Hp → Prop), Walk J xs.length G (YAt xs) → (∀ H', Same H H' → G H') → R J H) : SeqCase K a H R := by
  rcases h with h | h
  · exact .inl ⟨⟨_, h⟩, k _ _ walk_list fun H' s => s.seq h⟩
  · exact .inr ⟨⟨_, h⟩, k _ _ walk_tup fun H' s => Bx.Same.tup s h⟩
theorem at_map {α : Type} {l : List α} {f : α → V} {i : Nat} {x : V} (h : (l.map f)[i]? = some x) : ∃ y, l[i]? = some y ∧ x = f y := by
  rw [List.getElem?_map] at h
  cases e : l[i]? with
  | none =>
    rw [e] at h
    cases h
  | some y =>
    rw [e] at h
    exact ⟨y, rfl, (Option.some.inj h).symm⟩

/-! ### texts in ascending order -/
theorem rising_at : ∀ (p : Str) (r : List Str), risingS p r = true → ∀ (k : Nat) (x y : Str), (p :: r)[k]? = some x → (p :: r)[k + 1]? = some y → ltCps y.cps.toList x.cps.toList = false
  | p, [], _, k, x, y, _, h2 => by
    simp at h2
  | p, q :: r, h, k, x, y, h1, h2 => by
    have h3 : (!ltCps q.cps.toList p.cps.toList && risingS q r) = true := h
    rw [Bool.and_eq_true] at h3
    cases k with
    | zero =>
      have e1 : p = x := Option.some.inj h1
      have e2 : q = y := Option.some.inj h2
      rw [← e1, ← e2]
      simpa using h3.1
    | succ k => exact rising_at q r h3.2 k x y h1 h2
theorem sorted_at {l : List Str} (h : sortedS l = true) (nd : l.Nodup) {k : Nat} {x y : Str} (h1 : l[k]? = some x) (h2 : l[k + 1]? = some y) : x.cps.toList < y.cps.toList := by
  cases l with
  | nil => cases h1
  | cons p r =>
    have a := rising_at p r h k x y h1 h2
    rw [ltCps_eq] at a
    refine Std.lt_of_le_of_ne (of_decide_eq_false a) fun e => ?_
    have e2 : x = y := ext_tl e
    obtain ⟨i1, e3⟩ := List.getElem?_eq_some_iff.mp h1
    obtain ⟨i2, e4⟩ := List.getElem?_eq_some_iff.mp h2
    have z := List.pairwise_iff_getElem.mp nd k (k + 1) i1 i2 (Nat.lt_succ_self k)
    exact z (e3.trans (e2.trans e4.symm))

/-! ### membership of texts -/
theorem inV_str (x : Str) (ys : List Str) : inV (.str x) (ys.map V.str) = decide (x ∈ ys) := by
  unfold inV
  rw [List.any_map]
  induction ys with
  | nil => rfl
  | cons y ys ih =>
    rw [List.any_cons, ih]
    show ((y == x) || _) = _
    by_cases e : y = x
    · subst e
      simp
    · have e2 : (y == x) = false := by simpa using e
      rw [e2, Bool.false_or]
      by_cases h : x ∈ ys
      · rw [decide_eq_true h, decide_eq_true (List.mem_cons_of_mem _ h)]
      · rw [decide_eq_false h, decide_eq_false (fun z => (List.mem_cons.mp z).elim (fun z => e z.symm) h)]
theorem flat_all (ys : List Str) : (ys.map V.str).all flatV = true := by
  rw [List.all_map, List.all_eq_true]
  intro y _
  rfl
theorem lay_strs : ∀ ys : List Str, (∀ y ∈ ys, PyData.strOk y = true) → PyData.canLayAll0 (ys.map PyData.str) = true ∧ PyData.depthAll (ys.map PyData.str) ≤ 1
  | [], _ => ⟨rfl, by decide⟩
  | y :: ys, h => by
    obtain ⟨a, b⟩ := lay_strs ys fun z hz => h z (List.mem_cons_of_mem _ hz)
    constructor
    · show (PyData.strOk y && PyData.canLayAll0 (ys.map PyData.str)) = true
      rw [a, h y List.mem_cons_self]
      rfl
    · show max (PyData.depth (.str y)) (PyData.depthAll (ys.map PyData.str)) ≤ 1
      exact Nat.max_le.mpr ⟨by first | exact Nat.zero_le _ | decide | exact Nat.le_refl _, b⟩
theorem lay_lists : ∀ L : List (List Str), (∀ ys ∈ L, ∀ y ∈ ys, PyData.strOk y = true) → PyData.canLayAll0 (L.map fun ys => PyData.list (ys.map PyData.str)) = true ∧ PyData.depthAll (L.map fun ys => PyData.list (ys.map PyData.str)) ≤ 2
  | [], _ => ⟨rfl, by decide⟩
  | ys :: L, h => by
    obtain ⟨a, b⟩ := lay_lists L fun z hz => h z (List.mem_cons_of_mem _ hz)
    obtain ⟨c, d⟩ := lay_strs ys (h ys List.mem_cons_self)
    constructor
    · show (PyData.canLayAll0 (ys.map PyData.str) && PyData.canLayAll0 (L.map fun ys => PyData.list (ys.map PyData.str))) = true
      rw [a, c]
      rfl
    · show max (PyData.depthAll (ys.map PyData.str) + 1) (PyData.depthAll (L.map fun ys => PyData.list (ys.map PyData.str))) ≤ 2
      exact Nat.max_le.mpr ⟨by omega, b⟩

/-! ### signs of a written text -/
theorem pick {L : Str} {r : Int} (h0 : 0 ≤ r) (h1 : r < (tl L).length) : ∃ c, atI L.cps.toList r = some c ∧ c ∈ tl L := by
  obtain ⟨n, rfl⟩ := Int.eq_ofNat_of_zero_le h0
  have hn : n < (tl L).length := by omega
  exact ⟨(tl L)[n], atI_nat (List.getElem?_eq_getElem hn), List.getElem_mem hn⟩
end Bx
/-! Data that stands in the heap, beside objects that change; rules told of data. -/
namespace Dx
open PySem PySem.Spec PyProof.Rows L2 Bx TL

/-! ### the heap without some addresses -/
def mn (H : Hp) (S : List Addr) : Hp := fun b => if b ∈ S then none else H b
theorem mn_in {H : Hp} {S : List Addr} {b : Addr} (h : b ∈ S) : mn H S b = none := if_pos h
theorem mn_out {H : Hp} {S : List Addr} {b : Addr} (h : b ∉ S) : mn H S b = H b := if_neg h
theorem mn_same {H : Hp} {S : List Addr} : Same (mn H S) H := fun b o e => by
  by_cases h : b ∈ S
  · rw [mn_in h] at e
    cases e
  · rw [mn_out h] at e
    exact e
theorem mn_nil {H : Hp} : mn H [] = H := funext fun b => mn_out (by simp)
theorem mn_sub {H : Hp} {S T : List Addr} (h : ∀ b, b ∈ S → b ∈ T) : Same (mn H T) (mn H S) := fun b o e => by
  by_cases h1 : b ∈ T
  · rw [mn_in h1] at e
    cases e
  · rw [mn_out h1] at e
    rw [mn_out fun z => h1 (h b z)]
    exact e
theorem mn_upd {H : Hp} {S : List Addr} {a : Addr} {o : HO} (h : a ∈ S) : mn (upd H a o) S = mn H S := funext fun b => by
  by_cases h1 : b ∈ S
  · rw [mn_in h1, mn_in h1]
  · rw [mn_out h1, mn_out h1, upd_ne (show b ≠ a from fun z => h1 (by rw [z]; exact h))]
theorem mn_new {H : Hp} {S : List Addr} {p : Addr} {o : HO} (h : H p = none) : Same (mn H S) (mn (upd H p o) S) := fun b u e => by
  by_cases h1 : b ∈ S
  · rw [mn_in h1] at e
    cases e
  · rw [mn_out h1] at e ⊢
    rw [upd_ne (ne_of_none e h)]
    exact e
theorem mn_but {H H' : Hp} {S : List Addr} {a : Addr} (h : a ∈ S) (s : SameBut a H H') : Same (mn H S) (mn H' S) := fun b u e => by
  by_cases h1 : b ∈ S
  · rw [mn_in h1] at e
    cases e
  · rw [mn_out h1] at e ⊢
    exact s b u (fun z => h1 (z ▸ h)) e
theorem mn_all {H H' : Hp} {S : List Addr} (s : Same H H') : Same (mn H S) (mn H' S) := fun b u e => by
  by_cases h1 : b ∈ S
  · rw [mn_in h1] at e
    cases e
  · rw [mn_out h1] at e ⊢
    exact s b u e
theorem mn_to {H H' : Hp} {S T : List Addr} (h : ∀ b, b ∈ S → b ∈ T) (s : Same (mn H S) (mn H' S)) : Same (mn H T) (mn H' T) := fun b u e => by
  by_cases h1 : b ∈ T
  · rw [mn_in h1] at e
    cases e
  · rw [mn_out h1] at e ⊢
    have z := s b u (by rw [mn_out fun z => h1 (h b z)]; exact e)
    rw [mn_out fun z => h1 (h b z)] at z
    exact z
/-- what is tracked beside S was there, or is new -/
theorem mn_at {H : Hp} {S : List Addr} {b : Addr} {o : HO} (h : b ∉ S) (e : H b = some o) : mn H S b = some o := by
  rw [mn_out h]
  exact e
theorem mn_keep {H H' : Hp} {S : List Addr} (s : Same (mn H S) (mn H' S)) {b : Addr} {o : HO} (h : b ∉ S) (e : H b = some o) : H' b = some o := mn_same _ _ (s _ _ (mn_at h e))
theorem mn_free {H H' : Hp} {S : List Addr} (s : Same (mn H S) (mn H' S)) {b : Addr} (h : b ∉ S) (e : H' b = none) : H b = none := by
  cases z : H b with
  | none => rfl
  | some o =>
    rw [mn_keep s h z] at e
    cases e

/-! ### data -/
section
variable {K : PySem.W.Frag} {H : Hp}
theorem dp_lst {v : V} {ds : List PyData} (h : Dp K H v (.list ds)) : ∃ a xs, v = .ref a ∧ SqL K H a xs ∧ DpAll K H xs ds := by
  cases h with
  | lst s a => exact ⟨_, _, rfl, s, a⟩
theorem dp_tup {v : V} {ds : List PyData} (h : Dp K H v (.tuple ds)) : ∃ a xs, v = .ref a ∧ SqT K H a xs ∧ DpAll K H xs ds := by
  cases h with
  | tup s a => exact ⟨_, _, rfl, s, a⟩
theorem dp_str {v : V} {s : Str} (h : Dp K H v (.str s)) : v = .str s := by cases h; rfl
theorem dp_int {v : V} {i : Int} (h : Dp K H v (.int i)) : v = .int i := by cases h; rfl
theorem da_len : ∀ {xs : List V} {ds : List PyData}, DpAll K H xs ds → xs.length = ds.length
  | _, _, .nil => rfl
  | _, _, .cons _ t => congrArg (· + 1) (da_len t)
theorem da_get : ∀ {xs : List V} {ds : List PyData}, DpAll K H xs ds → ∀ {i : Nat} {d : PyData}, ds[i]? = some d → ∃ v, xs[i]? = some v ∧ Dp K H v d
  | _, _, .nil, i, d, e => by cases e
  | _, _, .cons h t, 0, d, e => by
    cases e
    exact ⟨_, rfl, h⟩
  | _, _, .cons h t, i + 1, d, e => da_get t e
theorem da_at : ∀ {xs : List V} {ds : List PyData}, DpAll K H xs ds → ∀ {i : Nat} {v : V}, xs[i]? = some v → ∃ d, ds[i]? = some d ∧ Dp K H v d
  | _, _, .nil, i, d, e => by cases e
  | _, _, .cons h t, 0, d, e => by
    cases e
    exact ⟨_, rfl, h⟩
  | _, _, .cons h t, i + 1, d, e => da_at t e
theorem da_app : ∀ {xs ys : List V} {ds es : List PyData}, DpAll K H xs ds → DpAll K H ys es → DpAll K H (xs ++ ys) (ds ++ es)
  | _, _, _, _, .nil, h => h
  | _, _, _, _, .cons h t, k => .cons h (da_app t k)
theorem da_one {v : V} {d : PyData} (h : Dp K H v d) : DpAll K H [v] [d] := .cons h .nil
theorem da_strs : ∀ {xs : List V} {ns : List Str}, DpAll K H xs (ns.map PyData.str) → xs = ns.map V.str
  | [], [], _ => rfl
  | [], _ :: _, h => by cases h
  | _ :: _, [], h => by cases h
  | x :: xs, n :: ns, h => by
    cases h with
    | cons h t =>
      rw [dp_str h, da_strs t]
      rfl
theorem da_ints : ∀ {xs : List V} {ns : List Int}, DpAll K H xs (ns.map PyData.int) → xs = ns.map V.int
  | [], [], _ => rfl
  | [], _ :: _, h => by cases h
  | _ :: _, [], h => by cases h
  | x :: xs, n :: ns, h => by
    cases h with
    | cons h t =>
      rw [dp_int h, da_ints t]
      rfl
theorem da_take : ∀ {xs : List V} {ds : List PyData}, DpAll K H xs ds → ∀ n, DpAll K H (xs.take n) (ds.take n)
  | _, _, .nil, n => by
    rw [List.take_nil, List.take_nil]
    exact .nil
  | _, _, .cons h t, 0 => .nil
  | _, _, .cons h t, n + 1 => .cons h (da_take t n)
/-- the strs of a tuple of texts -/
theorem dp_names {v : V} {ns : List Str} (h : Dp K H v (.tuple (ns.map PyData.str))) : ∃ a, v = .ref a ∧ SqT K H a (ns.map V.str) := by
  obtain ⟨a, xs, rfl, s, t⟩ := dp_tup h
  rw [da_strs t] at s
  exact ⟨a, rfl, s⟩
theorem dp_namesL {v : V} {ns : List Str} (h : Dp K H v (.list (ns.map PyData.str))) : ∃ a, v = .ref a ∧ SqL K H a (ns.map V.str) := by
  obtain ⟨a, xs, rfl, s, t⟩ := dp_lst h
  rw [da_strs t] at s
  exact ⟨a, rfl, s⟩
theorem names_dp {a : Addr} {ns : List Str} (h : SqT K H a (ns.map V.str)) : Dp K H (.ref a) (.tuple (ns.map PyData.str)) := .tup h (dp_strs ns)
theorem namesL_dp {a : Addr} {ns : List Str} (h : SqL K H a (ns.map V.str)) : Dp K H (.ref a) (.list (ns.map PyData.str)) := .lst h (dp_strs ns)
end

/-! ### what may be compared: no dicts, not too deep -/
def Lay (n : Nat) (d : PyData) : Prop := d.canLay0 = true ∧ d.depth ≤ n
def Lays (n : Nat) (ds : List PyData) : Prop := PyData.canLayAll0 ds = true ∧ PyData.depthAll ds ≤ n
theorem lays_nil {n : Nat} : Lays n [] := ⟨rfl, Nat.zero_le _⟩
theorem lays_cons {n : Nat} {d : PyData} {ds : List PyData} (h : Lay n d) (t : Lays n ds) : Lays n (d :: ds) := by
  constructor
  · show (d.canLay0 && PyData.canLayAll0 ds) = true
    rw [h.1, t.1]
    rfl
  · show max d.depth (PyData.depthAll ds) ≤ n
    exact Nat.max_le.mpr ⟨h.2, t.2⟩
theorem lays_of {n : Nat} : ∀ {ds : List PyData}, (∀ d ∈ ds, Lay n d) → Lays n ds
  | [], _ => lays_nil
  | d :: ds, h => lays_cons (h d List.mem_cons_self) (lays_of fun x hx => h x (List.mem_cons_of_mem _ hx))
theorem lay_tuple {n : Nat} {ds : List PyData} (h : Lays n ds) : Lay (n + 1) (.tuple ds) := ⟨h.1, Nat.succ_le_succ h.2⟩
theorem lay_list {n : Nat} {ds : List PyData} (h : Lays n ds) : Lay (n + 1) (.list ds) := ⟨h.1, Nat.succ_le_succ h.2⟩
theorem lay_int {n : Nat} {i : Int} : Lay n (.int i) := ⟨rfl, Nat.zero_le _⟩
theorem lay_str {n : Nat} {s : Str} (h : PyData.strOk s = true) : Lay n (.str s) := ⟨h, Nat.zero_le _⟩
theorem lay_up {m n : Nat} {d : PyData} (h : Lay m d) (k : m ≤ n) : Lay n d := ⟨h.1, Nat.le_trans h.2 k⟩
theorem lays_up {m n : Nat} {ds : List PyData} (h : Lays m ds) (k : m ≤ n) : Lays n ds := ⟨h.1, Nat.le_trans h.2 k⟩
theorem lays_mem {n : Nat} : ∀ {ds : List PyData}, Lays n ds → ∀ d ∈ ds, Lay n d
  | d :: ds, h, x, hx => by
    have h1 : (d.canLay0 && PyData.canLayAll0 ds) = true := h.1
    have h2 : max d.depth (PyData.depthAll ds) ≤ n := h.2
    rw [Bool.and_eq_true] at h1
    rw [Nat.max_le] at h2
    rcases List.mem_cons.mp hx with e | e
    · rw [e]
      exact ⟨h1.1, h2.1⟩
    · exact lays_mem ⟨h1.2, h2.2⟩ x e
theorem lays_strs {n : Nat} {ns : List Str} (h : ∀ s ∈ ns, PyData.strOk s = true) : Lays n (ns.map PyData.str) := lays_of fun d hd => by
  obtain ⟨s, hs, rfl⟩ := List.mem_map.mp hd
  exact lay_str (h s hs)
theorem lays_ints {n : Nat} {ns : List Int} : Lays n (ns.map PyData.int) := lays_of fun d hd => by
  obtain ⟨s, _, rfl⟩ := List.mem_map.mp hd
  exact lay_int
theorem shape {n : Nat} {d : PyData} (h : Lay n d) (k : n ≤ 64) : SeqAt.shaped d = true := by
  unfold SeqAt.shaped
  rw [Bool.and_eq_true]
  exact ⟨h.1, decide_eq_true (Nat.le_trans h.2 k)⟩
theorem eq_refl {n : Nat} {d : PyData} (h : Lay n d) : PyData.eqv d d = true := SeqAt.eqv_refl d h.1

/-! ### strict order of lists of texts, and equal lists -/
def Asc (l : List Str) : Prop := l.Pairwise fun x y => x.cps.toList < y.cps.toList
theorem asc_of : ∀ {l : List Str}, sortedS l = true → l.Nodup → Asc l := by
  intro l h nd
  have key : ∀ (d i : Nat) (x y : Str), l[i]? = some x → l[i + (d + 1)]? = some y → x.cps.toList < y.cps.toList := by
    intro d
    induction d with
    | zero => exact fun i x y h1 h2 => sorted_at h nd h1 h2
    | succ d ih =>
      intro i x y h1 h2
      have hl : i + (d + 1) < l.length := by
        have := (List.getElem?_eq_some_iff.mp h2).1
        omega
      have h3 : l[i + (d + 1)]? = some l[i + (d + 1)] := List.getElem?_eq_getElem hl
      exact List.lt_trans (ih i x _ h1 h3) (sorted_at h nd h3 h2)
  refine List.pairwise_iff_getElem.mpr fun i j hi hj hij => ?_
  exact key (j - i - 1) i _ _ (List.getElem?_eq_getElem hi) (by rw [show i + (j - i - 1 + 1) = j by omega]; exact List.getElem?_eq_getElem hj)
theorem asc_nodup {l : List Str} (h : Asc l) : l.Nodup := List.Pairwise.imp (fun {x y} hxy e => by
  rw [e] at hxy
  exact List.lt_irrefl _ hxy) h
theorem asc_eq : ∀ {l m : List Str}, Asc l → Asc m → (∀ x, x ∈ l ↔ x ∈ m) → l = m
  | [], [], _, _, _ => rfl
  | [], y :: m, _, _, h => absurd ((h y).mpr List.mem_cons_self) (by simp)
  | x :: l, [], _, _, h => absurd ((h x).mp List.mem_cons_self) (by simp)
  | x :: l, y :: m, h1, h2, h => by
    obtain ⟨a1, a2⟩ := List.pairwise_cons.mp h1
    obtain ⟨b1, b2⟩ := List.pairwise_cons.mp h2
    have e : x = y := by
      rcases List.mem_cons.mp ((h x).mp List.mem_cons_self) with e | e
      · exact e
      · rcases List.mem_cons.mp ((h y).mpr List.mem_cons_self) with e' | e'
        · exact e'.symm
        · exact absurd (List.lt_trans (a1 y e') (b1 x e)) (List.lt_irrefl _)
    subst e
    have nl : x ∉ l := fun z => List.lt_irrefl _ (a1 x z)
    have nm : x ∉ m := fun z => List.lt_irrefl _ (b1 x z)
    rw [asc_eq a2 b2 fun z => ⟨fun hz => (List.mem_cons.mp ((h z).mp (List.mem_cons_of_mem _ hz))).resolve_left fun e => nl (e ▸ hz), fun hz => (List.mem_cons.mp ((h z).mpr (List.mem_cons_of_mem _ hz))).resolve_left fun e => nm (e ▸ hz)⟩]

/-! ### sorted(xs), xs tuples of ints of one length: some order -/
def rSortRows (K : PySem.W.Frag) : List V → Hp → VK → Prop := fun vs H Q => ∃ (a : Addr) (xs : List V) (d : Nat) (B : Int), vs = [V.ref a] ∧ SqL K H a xs ∧ xs.length < 64 ∧ (∀ x ∈ xs, ∃ ns, TupI K H x ns ∧ ns.length = d ∧ TS.Bd B ns) ∧ (d = 0 → xs.length ≤ 1) ∧
  ∀ (ys : List V) (p : Addr), ys.Perm xs → H p = none → Q (.ref p) (upd H p (.lst ys))
theorem cr_sortRows {X : Cx} : CallR X (.builtin "sorted") (rSortRows X.K) := by
  intro pins s σ H vs us Q I r h
  obtain ⟨a, xs, d, B, rfl, hs, h64, hx, h1, q⟩ := h
  by_cases hd : 1 ≤ d
  · exact cr_sortT hd pins s σ H _ us Q I r ⟨a, xs, rfl, hs, h64, hx, fun ys p pm _ n => q ys p pm n⟩
  · have hl1 : xs.length ≤ 1 := h1 (by omega)
    obtain ⟨its, rv, hl, hz⟩ := I.list hs
    have hlen := rv.length
    rw [Vals.ref1 r]
    refine Srt.sorted_any hl.isList (by rw [← hlen]; exact hz) (fun h2 => absurd h2 (by omega)) fun out hp => ?_
    have e : out = its := by
      match its, hlen, hp with
      | [], _, hp => exact hp.eq_nil
      | [v], _, hp => exact List.perm_singleton.mp hp
      | _ :: _ :: _, hlen, _ =>
        simp only [List.length_cons] at hlen
        omega
    subst e
    obtain ⟨ep, he'⟩ := PyProof.Rows.sortedAll_at s.heap out out.toArray
    exact ⟨.ref _, upd H (s.heap.objs.size + 1) (.lst xs), I.laid (t' := s.toks) (fun _ _ => PyProof.Rows.sortedAll_old) (Nat.le_succ _) ⟨hz, out, ep, rv, by simpa using he'⟩, rfl, q xs _ (List.Perm.refl _) (I.hok.fresh (Nat.le_succ _))⟩

/-! ### the room of a call for a comparison of data -/
theorem room {k : Nat} {A : Around} (r : Room k A) : A.units + 65 < cLine := by
  have := r.un
  omega

/-! ### a list or a tuple of data -/
theorem dp_seq {K : PySem.W.Frag} {H : Hp} {v : V} {ds : List PyData} (h : Dp K H v (.list ds) ∨ Dp K H v (.tuple ds)) : ∃ a xs, v = .ref a ∧ DpAll K H xs ds ∧ (SqL K H a xs ∨ SqT K H a xs) := by
  rcases h with h | h
  · obtain ⟨a, xs, rfl, s, t⟩ := dp_lst h
    exact ⟨a, xs, rfl, t, .inl s⟩
  · obtain ⟨a, xs, rfl, s, t⟩ := dp_tup h
    exact ⟨a, xs, rfl, t, .inr s⟩

/-! ### name = {k: v for ..} -/
section
variable {X : Cx}
theorem ps_setDc {i : Nat} {y : Str} {py : Pos} {kx vx tg iter : Expr} {ifs : List Expr} {scope : Scope} {own : List (Str × Nat)} {pos spos : Pos} {wi : TI} {g : TG} {tt : TT} {tk tv : TE} (hc : X.calm = true) (hN : X.N.Nodup) (hy : X.N[i]? = some y) (hyl : X.env.scope.names.lookup y = some .local)
    (hsw : swapsWith (.DictComp kx vx [⟨tg, iter, ifs, 0⟩] scope pos) (some (.Name y py)) spos.line X.env = pure true) (hi : PI X tg iter wi) (ok : BlkOk X.N X.env.scope scope own)
    (hg : ∀ (s : Shared) (H : Hp) (C : Addr) (cl : List (Str × Addr)) (fp : List Addr), PG (X.blk s H scope (compEnvC scope cl C X.env) fp) tg g) (ht : ∀ (s : Shared) (H : Hp) (C : Addr) (cl : List (Str × Addr)) (fp : List Addr), PTs (X.blk s H scope (compEnvC scope cl C X.env) fp) ifs tt)
    (hk : ∀ (s : Shared) (H : Hp) (C : Addr) (cl : List (Str × Addr)) (fp : List Addr), PE (X.blk s H scope (compEnvC scope cl C X.env) fp) kx tk)
    (he : ∀ (s : Shared) (H : Hp) (C : Addr) (cl : List (Str × Addr)) (fp : List Addr), PE (X.blk s H scope (compEnvC scope cl C X.env) fp) vx tv) (hs : ∀ x, foldedSetIterable iter X.env x = pure x := by intro _; rfl) :
    PS X (.Assign [.Name y py] (.DictComp kx vx [⟨tg, iter, ifs, 0⟩] scope pos) spos) (tAsg (tDc wi g tt tk tv (own.map (·.2))) (gName i)) := by
  refine ⟨fun pins s σ H D I h => ?_⟩
  rw [exec_Assign_Name_used _ _ _ _ hsw]
  refine wpAny_bind (wpAny_standAt (wpAny_bind ?_))
  show wpAny _ X.A (do let _ ← comprehension (.DictComp kx vx [⟨tg, iter, ifs, 0⟩] scope pos) scope X.env _ newDict false (eval iter X.env) (some (assign (.Name y py) X.env))) _ _ s
  have h : tDc wi g tt tk tv (own.map (·.2)) σ H (fun x H1 => gName i x σ H1 D.nx) := h
  refine wpAny_bind (thn (dc_core (Qf := fun _ s' => SP X pins D .next s') hc hN I hi ok hg ht hk he hs h fun L C s' m H' I' q hn f => ?_) fun _ s' hq => wpAny_pure (wpAny_pure hq))
  show wpAny _ _ (assign (.Name y py) X.env (.ref L)) _ _ _
  refine wpAny_assign_Name (store_ok2 (v := V.ref L) I' hN hy (.inl hyl) rfl (fun s2 I2 ⟨a, sb, ha⟩ => ?_) (.inr hyl))
  obtain ⟨f0, f1, f2, f3, f4, f5⟩ := f
  have haC : C ≠ a := by
    rcases ha with z | z
    · rw [z]; exact f1
    · exact fun e => f4 y a z e.symm
  refine ⟨m, hn.sameBut sb haC, fun h3 sb3 => ?_⟩
  exact ⟨_, H', I2.turned (t' := s2.toks) (fun b o hb e => (sb3.2 b hb).trans e) f0 f1 f3 f4 f5, q⟩
theorem sw_trueD {kx vx : Expr} {gs : List Comprehension} {scope : Scope} {pos py : Pos} {y : Str} {l : Nat} {env : Env} (hk : env.scope.kind = .function) (hy : env.scope.names.lookup y = some .local) (hl : (py.line == pos.line) = true)
    (ha : (scope.names.any fun (n, k) => n == y && (k == .local || k == .cell)) = false) : swapsWith (.DictComp kx vx gs scope pos) (some (.Name y py)) l env = pure true := by
  have ky : env.kindOf y = some .local := hy
  have hb : env.blockKind = .function := by unfold Env.blockKind; rw [hk]; rfl
  unfold swapsWith
  simp only [hb, ky, ha, Expr.pos, hl]
  rfl
end
end Dx
/-! An own exception's __init__ that begins with super().__init__(e), over ValueError. -/
namespace Sup
open PySem PySem.Spec PyProof.Rows L2 NdefX
abbrev vei : String := "ValueError.__init__"
def mwO (u a : Addr) : HO := .ext fun h => h.get? u = some (PySem.W.kxs_mw vei a)
theorem mwO_ok {P : Program} {w : World} {H : Hp} {h : Heap} {u a : Addr} (e : h.get? u = some (PySem.W.kxs_mw vei a)) : ObjOk P w H h u (mwO u a) := ⟨e, ⟨_, e⟩, fun h1 h2 z k => k _ z⟩
theorem mwO_at {P : Program} {w : World} {H : Hp} {h : Heap} {u a : Addr} (hok : HOk P w H h) (e : H u = some (mwO u a)) : h.get? u = some (PySem.W.kxs_mw vei a) := by
  have x : ObjOk P w H h u (.ext fun h => h.get? u = some (PySem.W.kxs_mw vei a)) := hok u _ e
  exact x.1
/-- what the written part says of a def that says super() -/
structure SupF (P : Program) (K : PySem.W.Frag) (mg : Str → Option Value) (env : Env) (sn : Str) (D : Addr) : Prop where
  ks : env.kindOf "super" = some .globalImplicit
  kc : env.kindOf "__class__" = some .free
  fn : ∃ (f : Addr) (oc : Value) (od : Option Addr) (fd : FuncData) (osl : Array (Option Value)) (ar : Arg), env.func = some f ∧ K.lookup f = some ⟨oc, od, .func fd, osl⟩ ∧ (fd.params.posonlyargs ++ fd.params.args).head? = some ar ∧ ar.arg = sn
  co : ∃ (cda : Addr) (ccl : Value) (cdd : Option Addr) (vs : Array Value) (ccs : Array (Option Value)) (file : Str) (tf : Tok), env.code = .ref cda ∧ K.lookup cda = some ⟨ccl, cdd, .fields vs, ccs⟩ ∧ vs[2]? = some (.str file tf) ∧ ((P.main.file : Str) == file) = true
  top : (P.main.scope.names.lookup ("super" : Str)).isSome = false
  ce : ∃ (cc : Addr) (cl : Value) (cld : Option Addr) (csl : Array (Option Value)), env.cells.lookup ("__class__" : Str) = some cc ∧ K.lookup cc = some ⟨cl, cld, .cell (some (.ref D)), csl⟩
  mg : mg "super" = none
  any : PySem.W.nsIn K cStatics "thirdparty.any" = some none
  it : interactive env = false
  ka : env.kindOf sn = some .local
/-- .. and of the class of the object -/
structure SupC (K : PySem.W.Frag) (C D : Addr) : Prop where
  cls : ∃ cd, PySem.W.clsIn K D = some cd
  sub : PySem.W.mroIn K C (.ref D) = some true
  sup : PySem.W.ks_superIn K C D "__init__" = some (some (.builtin vei))
  ve : PySem.W.subIn K (.ref C) (.type "ValueError") = some true
  exc : OexC K C
section
variable {X : Cx} {pins : List (Addr × Obj)} {σ : List (Option V)} {H : Hp} {s : Shared} {self : Str} {D a C : Addr} {body : List Stmt} {p0 p1 p2 pos pos' : Pos} {e : Expr} {te : TE}
theorem ld_super {E : Value → Shared → Prop} {Q : Value → Shared → Prop} (I : Inv X pins σ H s) (S : SupF X.prog X.K X.mg X.env self D) (h : Q (.type "super") s) : wpAny (model X.prog X.w) X.A (loadName X.env "super") Q E s := by
  obtain ⟨mb, h1, h2⟩ := I.mod.blt
  exact PySem.W.ks_loadName_global I.ok.kind S.ks (Calls.loadGlobal_builtin (by rw [I.ok.glob]; exact I.mod.glob.keeps I.bk) S.mg (by rw [I.ok.blt]; exact h1.keeps I.bk) ((h2 _ (by decide)).trans (by rfl)) h)
theorem self_at (I : Inv X pins σ H s) {u : V} (h1 : X.N[0]? = some self) (h2 : σ[0]? = some (some u)) (hk : X.env.kindOf self = some .local) : ∃ m v, s.heap.Ns X.env.locals m ∧ m self = some v ∧ RelV u v := by
  obtain ⟨m, hn, hl⟩ := I.loc
  obtain ⟨v, r, k⟩ := hl 0 self u h1 h2 (.inl hk)
  rcases k with ⟨_, k⟩ | ⟨k, _⟩
  · exact ⟨m, v, hn, k, r⟩
  · rcases k with k | k <;> · rw [hk] at k; cases k
theorem exo_inst {C a : Addr} (T : OexC X.K C) (I : Inv X pins σ H s) (e : H a = some (exo a C none)) : ∃ t1 : Addr, PySem.W.InstAt s.heap a { cls := .ref C, dict := none, data := .fields #[.ref t1, .none, .none, .none, .bool false, .none] } C none := by
  obtain ⟨t1, ho⟩ := exo_at I.hok e
  exact ⟨t1, ho, rfl, rfl, trivial⟩
/-- the wrapper called -/
theorem call_mw {u : Addr} {us : List Value} {Q : Value → Shared → Prop} {E : Value → Shared → Prop} {A : Around} (T : OexC X.K C) (I : Inv X pins σ H s) (eu : H u = some (mwO u a)) (ea : H a = some (exo a C none)) (hl : us.length ≤ sizeLine) (h : ∀ s', Inv X pins σ H s' → Q .none s') :
    wpAny (model X.prog X.w) A (call (.ref u) us) Q E s := by
  obtain ⟨nm, q, N, bs, bm, sn, sub, ab, col, dd, k0, k1, k2, k3, k5, hC, hbm⟩ := T.cls
  obtain ⟨t1, ho⟩ := exo_at I.hok ea
  have hu := mwO_at I.hok eu
  have hCh := I.kIn _ _ hC
  have FB := F.excBase_ValueError
  obtain ⟨hp, g, d, t, os⟩ := s
  refine wpAny_call (codeAny_of_tree ?_)
  show wpAny _ A.in1 (callAny (.ref u) ⟨us, []⟩) _ _ _
  simp only [callAny]
  refine wpAny_bind (wpAny_load hu ?_)
  simp only [PySem.W.kxs_mw, show (Value.type "method-wrapper" == Value.type "method" || Value.type "method-wrapper" == Value.type "builtin_function_or_method" || Value.type "method-wrapper" == Value.type "method-wrapper") = true by decide, if_true]
  refine PySem.W.KFB.if_so (by decide) ?_
  refine wpAny_bind (PySem.W.check_bound_init FB.toExcCallFacts hCh ho rfl ?_)
  refine wpAny_bind (wpAny_pure (wpAny_pure ?_))
  refine ⟨plainId_quiet FB.init.plain _, codeAny_builtin FB.initEntry ?_⟩
  refine PySem.W.exc_init_tree (cls := .ref C) (t0 := t1) (dv := none) (c2 := .none) (c3 := .none) (b4 := .bool false) ho hl fun h' k hx _ => ?_
  have J := I.write (t' := t) (x := a) (e := a) (o := exo a C none) (by rw [ea]; exact True.intro) (.inl rfl) k ⟨_, hx⟩ (exo_ok hx)
  have eu2 : upd H a (exo a C none) = H := by
    funext b
    by_cases hb : b = a
    · rw [hb, upd_same, ea]
    · rw [upd_ne hb]
  rw [eu2] at J
  exact h _ J
theorem sup_stmt {es : List Expr} {pl : Sem Bool} {ta : TA} {G : Hp → Prop} {Q : Flow → Shared → Prop} (I : Inv X pins σ H s) (S : SupF X.prog X.K X.mg X.env self D) (T : SupC X.K C D) (hN : X.N[0]? = some self) (h0 : σ[0]? = some (some (.ref a))) (ea : H a = some (exo a C none)) (ha : PA X (e :: es) ta)
    (h : ∀ u, H u = none → ta σ (upd H u (mwO u a)) fun vs H2 => vs.length ≤ 1000 ∧ H2 u = some (mwO u a) ∧ H2 a = some (exo a C none) ∧ G H2) (hq : ∀ H2 s', Inv X pins σ H2 s' → G H2 → Q .next s')
    (hev : eval (.Call (.Attribute (.Call (.Name "super" p0) [] [] p1) "__init__" p2) (e :: es) [] pos) X.env = (do
      let ov ← attributeBase (.Call (.Name "super" p0) [] [] p1) "__init__" X.env (eval (.Call (.Name "super" p0) [] [] p1) X.env)
      standAt p2.atName
      let (f, first) ← holding [ov] (getMethod ov "__init__" pl)
      callWith pos f first (backTo pos (starEach (e :: es) X.env)) []) := by rfl)
    (he : starEach (e :: es) X.env = (false, eval e X.env) :: starEach es X.env := by rfl) (hpl : (backTo pos (starEach es X.env)).any (·.1) = false := by rfl) :
    _root_.PySem.wpAt (model X.prog X.w) X.A (.func body X.env) (exec (.Expr (.Call (.Attribute (.Call (.Name "super" p0) [] [] p1) "__init__" p2) (e :: es) [] pos) pos') X.env) Q X.xe s := by
  refine ks_wpAt_Expr_any ?_ S.it
  refine ks_wpAt_MethodCall ?_ hev
  obtain ⟨f, oc, od, fd, osl, ar, hfu, lf, hp, har⟩ := S.fn
  obtain ⟨cda, ccl, cdd, vs, ccs, file, tf, hco, lc, hvs, hfile⟩ := S.co
  obtain ⟨cc, cl, cld, csl, hcl, lcc⟩ := S.ce
  obtain ⟨m, v, hn, hv, rv⟩ := self_at I hN h0 S.ka
  obtain rfl : v = Value.ref a := rv
  obtain ⟨t1, inst⟩ := exo_inst T.exc I ea
  obtain ⟨cdD, hD⟩ := T.cls
  have XK := I.kIn
  obtain ⟨oD, hD1, hD2⟩ : ∃ oD, s.heap.get? D = some oD ∧ oD.data = .cls cdD := by
    unfold PySem.W.clsIn at hD
    split at hD
    · rename_i c d cd' sl ho
      cases hD
      exact ⟨_, XK _ _ ho, rfl⟩
    · cases hD
  refine ks_wpAt_super_base S.ks S.kc (by decide) hfu (XK _ _ lf) rfl hp hco (XK _ _ lc) rfl hvs hfile S.top ?_
  refine ld_super I S ⟨rfl, ?_⟩
  refine wpAny_loadName_free I.ok.kind S.kc hcl ⟨_, XK _ _ lcc, rfl⟩ ?_
  refine wpAny_loadName_local I.ok.kind (har ▸ S.ka) hn (har ▸ hv) ?_
  refine ks_wpAny_isType_cls hD1 hD2 ⟨rfl, ?_⟩
  obtain ⟨hp0, g, d, t, os⟩ := s
  refine ks_wpAny_call_super hD1 hD2 inst.at_ rfl (fun c e => by cases e) (PySem.W.looks_mroIn XK T.sub) fun h' eso k => ?_
  have I2 : Inv X pins σ H ⟨h', g, d, t, os⟩ := I.kept (t' := t) k
  have XK2 := I2.kIn
  have sup := T.sup
  unfold PySem.W.ks_superIn at sup
  cases hc : PySem.W.clsIn X.K C with
  | none =>
    rw [hc] at sup
    cases sup
  | some cd =>
    rw [hc] at sup
    obtain ⟨t2, inst2⟩ := exo_inst T.exc I2 ea
    refine PySem.W.kxs_getMethod PySem.W.kxs_ValueError eso (PySem.W.looks_opaque XK2 S.any) (l₀ := cd.mro) ?_ rfl XK2 sup (inst2.type.andThen (PySem.W.looks_subIn XK2 T.ve)) (PySem.W.ks_ne XK2 inst2 hc) (by decide) ?_
    · exact fun A Q E s k q => wpAny_bind ((PySem.W.looks_clsIn XK2 hc) A _ E s k (wpAny_pure q))
    · have hnu : H h'.objs.size = none := I2.hok.fresh (Nat.le_refl _)
      have gu : (h'.push (PySem.W.kxs_mw vei a)).get? h'.objs.size = some (PySem.W.kxs_mw vei a) := Heap.get?_push_at rfl rfl
      have I3 : Inv X pins σ (upd H h'.objs.size (mwO h'.objs.size a)) ⟨h'.push (PySem.W.kxs_mw vei a), g, d, t + 1, os⟩ :=
        I2.laid (t' := t + 1) (fun b o e => Heap.get?_push_of_some _ e) (Nat.le_refl _) (mwO_ok gu)
      show wpAny _ _ (callWith pos (.ref h'.objs.size) [] (backTo pos (starEach (e :: es) X.env)) []) _ _ _
      have run := ha.run pos pins _ σ _ _ I3 (h _ hnu)
      rw [he] at run ⊢
      refine PySem.W.kxs_callWith (i := vei) (x := a) (by show (false || (backTo pos (starEach es X.env)).any (·.1)) = false; rw [hpl]; rfl) ?_
      refine Calls.evalArgs_plain (thn run fun us s1 ⟨vs, H1, I1, r1, hz, eu, ea1, hG⟩ => ⟨mwO_at I1.hok eu, ?_⟩)
      exact call_mw T.exc I1 eu ea1 (by show us.length ≤ _; rw [← Paired.length r1, sizeLine_eq]; omega) fun s' J => hq H1 s' J hG
end
section
variable {CX : CXT} {P : Program} {w : World} {K : PySem.W.Frag} {mg : Str → Option Value} {base : Heap} {k : Nat} {F : NF} {f cc D : Addr} {kV doc pm ct oc : Value} {an od : Option Addr} {osl : Array (Option Value)} {N ps : List Str} {sp : Sp} {self : Str} {e : Expr} {es : List Expr} {p0 p1 p2 pos pos' : Pos} {rest : List Stmt} {pl : Sem Bool}
theorem fn_sup (lk : K.lookup f = some ⟨oc, od, .func (PySem.W.fnX F.name F.qual F.params F.body F.scope F.cl .none kV doc pm an (.ref F.c) ct), osl⟩) (hcd : PySem.W.codeIn K (.ref F.c) F.qual = true) (hcl : F.cl = [(("__class__" : Str), cc)])
    (hcc : ∃ cl cld csl, K.lookup cc = some ⟨cl, cld, .cell (some (.ref D)), csl⟩) (S : NScope N ps ["__class__"] F.scope) (hF : ∀ L, SupF P K mg (envF F f L) self D) (hN : N[0]? = some self)
    (hbd : F.body = .Expr (.Call (.Attribute (.Call (.Name "super" p0) [] [] p1) "__init__" p2) (e :: es) [] pos) pos' :: rest)
    (len : ∀ vs H Q E, sp vs H Q E → vs.length = ps.length)
    (hbody : ∀ (A : Around) (outer : List Env) (s : Shared) (H : Hp) (vs : List V) (Q : VK) (E : XK), Room k (A.deeper (envF F f s.heap.objs.size)) → sp vs H Q E →
      ∃ (a C : Addr) (ta : TA) (t : TS), SupC K C D ∧ (startF N vs [none])[0]? = some (some (.ref a)) ∧ H a = some (exo a C none) ∧ PA (ncx CX P w K mg base N F f A outer s H E) (e :: es) ta ∧ PSs (ncx CX P w K mg base N F f A outer s H E) rest t ∧
        ∀ u, H u = none → ta (startF N vs [none]) (upd H u (mwO u a)) fun vs' H2 => vs'.length ≤ 1000 ∧ H2 u = some (mwO u a) ∧ H2 a = some (exo a C none) ∧ t { nx := fun _ H' => Q .non H', rt := Q } (startF N vs [none]) H2)
    (hev : ∀ L, eval (.Call (.Attribute (.Call (.Name "super" p0) [] [] p1) "__init__" p2) (e :: es) [] pos) (envF F f L) = (do
      let ov ← attributeBase (.Call (.Name "super" p0) [] [] p1) "__init__" (envF F f L) (eval (.Call (.Name "super" p0) [] [] p1) (envF F f L))
      standAt p2.atName
      let (g, first) ← holding [ov] (getMethod ov "__init__" pl)
      callWith pos g first (backTo pos (starEach (e :: es) (envF F f L))) []) := by intro L; rfl)
    (he : ∀ L, starEach (e :: es) (envF F f L) = (false, eval e (envF F f L)) :: starEach es (envF F f L) := by intro L; rfl) (hpl : ∀ L, (backTo pos (starEach es (envF F f L))).any (·.1) = false := by intro L; rfl) :
    FnOk P w K mg base CX (k + 1) f (PySem.W.fnX F.name F.qual F.params F.body F.scope F.cl .none kV doc pm an (.ref F.c) ct) ps sp := by
  refine ⟨len, fun A outer s H args us vs Q E hr e0 hb r hsp => ?_⟩
  have hl := len _ _ _ _ hsp
  have KX : K.In s.heap := e0.mod.kin.keeps fun b o e => (e0.bs b o e).1
  have lim : s.heap.NoLimit := e0.mod.nolimit.keeps fun b o e => (e0.bs b o e).1
  obtain ⟨cl, cld, csl, hcc⟩ := hcc
  have C : CellsAt F.cl ["__class__"] [none] s.heap H := by
    have one : ∀ {y : Str} {c : Addr}, F.cl.lookup y = some c → y = "__class__" ∧ c = cc := fun {y c} e => by
      rw [hcl] at e
      by_cases h : y = ("__class__" : Str)
      · subst h
        have e2 : some cc = some c := e
        exact ⟨rfl, (Option.some.inj e2).symm⟩
      · have h2 : (y == ("__class__" : Str)) = false := by simpa using h
        rw [List.lookup_cons, h2] at e
        cases e
    refine ⟨rfl, fun y c e => ?_, fun x y c e1 e2 => (one e1).1.trans (one e2).1.symm, fun i y hi => ?_⟩
    · rw [(one e).2]
      exact ⟨(e0.bs _ _ (e0.mod.kin _ _ hcc)).2, _, ⟨_, KX _ _ hcc, rfl⟩⟩
    · cases i with
      | zero =>
        have e : ("__class__" : Str) = y := Option.some.inj hi
        refine ⟨cc, by rw [hcl, ← e]; rfl, fun v hv => ?_⟩
        cases hv
      | succ i => cases hi
  refine ks_codeAny_call_defAt hr.depth (KX _ _ lk) rfl lim (PySem.W.codeRec_of KX hcd) rfl hb S.nocell (fun ⟨n, v⟩ hy => S.par n (List.of_mem_zip hy).1) (fun h₁ hns kp => ?_) S.co S.gen S.kind
  show _root_.PySem.wpAt (model P w) (A.deeper (envF F f s.heap.objs.size)) (.func F.body (envF F f s.heap.objs.size)) (execs F.body (envF F f s.heap.objs.size)) _ _ _
  obtain ⟨a, Ca, ta, t, hC, h0, ea, pa, ps', hq⟩ := hbody A outer s H vs Q E (hr.deeper _) hsp
  have I : Inv (ncx CX P w K mg base N F f A outer s H E) [] (startF N vs [none]) H { s with heap := h₁, toks := s.toks + (ps.zip us).length } := inv_startN S hr.hd e0 hl r C hns kp
  have fin : ∀ {s' : Shared} {σ' : L2.St} {H' : Hp} {v : V} {u : Value}, Inv (ncx CX P w K mg base N F f A outer s H E) [] σ' H' s' → L2.RelV v u → Q v H' → CE outer P w H s Q u s' :=
    fun {s' σ' H' v u} J rv q => ⟨v, H', J.os, J.bare, J.base, J.hok, rv, q⟩
  have main : ∀ (body : List Stmt), _root_.PySem.wpAt (model P w) (A.deeper (envF F f s.heap.objs.size)) (.func body (envF F f s.heap.objs.size)) (execs (.Expr (.Call (.Attribute (.Call (.Name "super" p0) [] [] p1) "__init__" p2) (e :: es) [] pos) pos' :: rest) (envF F f s.heap.objs.size))
      (fun fl s' => CR CX outer P w H s Q E (.ok (.ret (match fl with | .ret v => v | _ => .none))) s') (ncx CX P w K mg base N F f A outer s H E).xe { s with heap := h₁, toks := s.toks + (ps.zip us).length } := by
    intro body
    refine ks_wpAt_execs_cons ?_
    refine sup_stmt (X := ncx CX P w K mg base N F f A outer s H E) (body := body) (G := fun H2 => t { nx := fun _ H' => Q .non H', rt := Q } (startF N vs [none]) H2) I (hF _) hC hN h0 ea pa hq (fun H2 s' J hG => ?_) (hev _) (he _) (hpl _)
    refine wpAt_of_wpAny ?_
    refine wpAny_mono (ps'.run [] s' (startF N vs [none]) H2 _ J hG) (fun fl s' hs => ?_) fun e s' hs => hs
    cases fl with
    | ret u =>
      obtain ⟨v, σ', H', J, rv, q⟩ := hs
      exact fin J rv q
    | next =>
      obtain ⟨σ', H', J, q⟩ := hs
      exact fin (v := V.non) (u := Value.none) J rfl q
    | brk =>
      obtain ⟨_, _, _, q⟩ := hs
      exact False.elim q
    | cont =>
      obtain ⟨_, _, _, q⟩ := hs
      exact False.elim q
  have m2 := main F.body
  rw [← hbd] at m2
  exact m2
end
end Sup
/-! Own errors with one field, whose __init__ says super().__init__(f'..'). -/
namespace Er
open PySem PySem.Spec PyProof.Rows L2 Bx TL Dx Sup NdefX
/-- __init__(self, y): the error at a gets a dict with f = y -/
def spErr (ok : V → Prop) (C : Addr) (f : Str) : Sp := fun vs H Q _ => ∃ (a : Addr) (v : V), vs = [.ref a, v] ∧ ok v ∧ H a = some (exo a C none) ∧
  ∀ (d : Addr) (H' : Hp), (∀ b o, b ≠ a → H b = some o → H' b = some o) → H d = none → d ≠ a → H' a = some (exo a C (some d)) → H' d = some (exd d [(f, v)]) → Q .non H'
/-- the class at C, named x: an own error over ValueError with one field -/
structure Err (P : Program) (w : World) (K : PySem.W.Frag) (mg : Str → Option Value) (base : Heap) (x : Str) (C : Addr) (f y : Str) (ok : V → Prop) (k : Nat) : Prop where
  init : ∃ (fI : Addr) (fd : FuncData), PySem.W.findIn K (.ref C) "__init__" = some (some (.ref fI)) ∧ PySem.W.typeIn K (.ref fI) = some (.type "function") ∧ FnOk P w K mg base CX0 k fI fd ["self", y] (spErr ok C f) ∧ Binds K fd ["self", y] []
  exc : OexC K C
  g : mg x = some (.ref C)
  te : PySem.W.exmOne K (.ref C) (.ref C) = some true
  xf : XfC K C
  no : PySem.W.findIn K (.ref C) f = some none
section
variable {X : Cx} {x : Str} {C : Addr} {f y : Str} {ok : V → Prop} {k : Nat} {e : Expr} {te : TE} {p pos pos' : Pos} {W : WX}
theorem ps_raiseE (c : Err X.prog X.w X.K X.mg X.base x C f y ok k) (hc : X.calm = true) (tk : Takes X W) (hr : Room (k + 1) X.A) (he : PE X e te) (hg : Gl X x := by rfl) (hdb : (x == ("__debug__" : Str)) = false := by decide)
    (hst : starEach [e] X.env = (false, eval e X.env) :: starEach [] X.env := by rfl) (hpl : (backTo pos (starEach [] X.env)).any (·.1) = false := by rfl) :
    PS X (.Raise (some (.Call (.Name x p) [e] [] pos)) none pos') (fun _ σ H => te σ H fun v H1 => ok v ∧ ∀ d H3, Same H1 H3 → H1 d = none → H3 d = some (.xd [(f, v)]) → W (.ref C) (some d) σ H3) := by
  obtain ⟨fI, fd, iC, tI, F1, hb⟩ := c.init
  have he2 : PE X e (fun σ H Q => ∃ R : VK, te σ H R ∧ ∀ v H1, R v H1 → Q v H1) := ⟨fun pins s σ H Q I ⟨R, h, hR⟩ => thn (he.run pins s σ H R I h) fun v s1 ⟨x, H1, I1, r, q⟩ => ⟨x, H1, I1, r, hR _ _ q⟩⟩
  have z := ps_raise (pos := pos') hc tk (pmk_oex (pos := pos) (p := p) (dvs := []) c.exc iC tI F1 hr hb .nil (pass0) hg c.g (pa_cons he2 pa_nil hst) hdb hst hpl)
  refine ⟨fun pins s σ H D I h => z.run pins s σ H D I ?_⟩
  refine ⟨_, h, fun v H1 hq => ?_⟩
  obtain ⟨hok, hw⟩ := hq
  refine ⟨by show 1 ≤ 1000; decide, fun a na => ⟨a, v, rfl, hok, upd_same, fun d H' keep nd da ea ed => ?_⟩⟩
  have nd1 : H1 d = none := by
    rw [upd_ne da] at nd
    exact nd
  refine ⟨rfl, d, _, ea, ed, nd1, hw d _ (fun b o e => ?_) nd1 upd_same⟩
  have ba : b ≠ a := ne_of_none e na
  rw [upd_ne (ne_of_none e nd1), del_ne ba]
  exact keep b o ba (by rw [upd_ne ba]; exact e)
end
/-! ### isinstance of an error with a dict -/
def rIsD (K : PySem.W.Frag) (a : Addr) (cls : Value) (d : Option Addr) : List V → Hp → VK → Prop := fun xs H Q => ∃ (D dd : Addr) (c : V) (cv : Value) (b : Bool) (fs : List (Str × V)), xs = [.ref a, c] ∧ cls = .ref D ∧ d = some dd ∧ (PySem.W.clsIn K D).isSome = true ∧ ExcC K D ∧
  H dd = some (.xd fs) ∧ (∀ u, RelV c u → u = cv) ∧ PySem.W.kitOne K (.ref D) cv = some b ∧ Q (.bl b) H
theorem call_isD {X : Cx} {a : Addr} {cls : Value} {d : Option Addr} {oe : Obj} {pn : List (Addr × Obj)} (hz : Zc cls d oe) (hf : ∃ vs, oe.data = .fields vs) : CallR (X.suite a ((a, oe) :: pn)) (.builtin "isinstance") (rIsD X.K a cls d) := by
  intro pins s σ H xs us Q I r h
  obtain ⟨D, dd, c, cv, b, fs, rfl, rfl, rfl, hcl, C, hdd, hcv, e, q⟩ := h
  cases r with
  | cons rx rr =>
    cases rr with
    | cons rt rr =>
      cases rr
      cases rx
      have ec := hcv _ rt
      subst ec
      obtain ⟨hget, _⟩ := I.pin (a, oe) (List.mem_append.mpr (.inl List.mem_cons_self))
      obtain ⟨vs, hv⟩ := hf
      obtain ⟨oD, hD⟩ : ∃ o, s.heap.get? dd = some o := by
        obtain ⟨mA, hn, _⟩ := I.hok dd _ hdd
        obtain ⟨o, _, _, e, _⟩ := hn
        exact ⟨o, e⟩
      have J : PySem.W.InstAt s.heap a oe D (some oD) := by
        obtain ⟨oc, od, oda, osl⟩ := oe
        obtain ⟨h1, h2⟩ := hz
        dsimp only at h1 h2 hv
        subst h1 h2 hv
        exact ⟨hget, rfl, rfl, hD⟩
      exact PySem.W.kia_one (PySem.W.kitx_exc hcl C.hg C.hk C.hs C.ha C.hn C.ht C.hm) I.kIn J e (fun z => nomatch z) fun tk => ⟨.bl b, H, I.kept (t' := tk) fun _ _ z => z, rfl, q⟩
/-! ### calls of defs that may raise -/
section
variable {X : Cx} {CX : CXT} {k n : Nat} {f : Addr} {fd : FuncData} {ps ks : List Str} {sp : Sp} {E : L2.St → XK} {x : Str} {p pos : Pos} {e : Expr} {es : List Expr} {kws : List Keyword} {t tk : TA} {g : List Value → List Value → List Value} {gV : List V → List V → List V}
theorem run_fnNS {pins : List (Addr × Obj)} {σ : L2.St} {H : Hp} {s : Shared} {Q : VK} {us ws : List Value} {vs zs : List V} (F : FnOk X.prog X.w X.K X.mg X.base CX k f fd ps sp) (hr : Room k X.A) (hb : KBn X.K fd ps n ks g gV) (hx : PassesAt CX X σ (E σ))
    (I : Inv X pins σ H s) (r : Vals vs us) (rz : Vals zs ws) (l1 : vs.length = n) (l2 : zs.length = ks.length) (h : sp (gV vs zs) H Q (E σ)) : wpAny (model X.prog X.w) X.A (call (.ref f) us (ks.zip ws)) (EP X pins σ Q) X.xe s := by
  refine wpAny_call (codeAny_mono (F.run X.A X.stack s H ⟨us, ks.zip ws⟩ (g us ws) (gV vs zs) Q (E σ) hr I.env0 (hb.to s us ws I.kIn (by rw [← r.length]; exact l1) (by rw [← rz.length]; exact l2)) (hb.rel r rz) h) fun r s' hq => ?_)
  cases r with
  | error e => exact hx pins H s e s' I hq
  | ok fl =>
    cases fl with
    | ret u => exact I.after hq
    | next => exact False.elim hq
    | brk => exact False.elim hq
    | cont => exact False.elim hq
def tCallNS (n m : Nat) (sp : Sp) (gV : List V → List V → List V) (E : L2.St → XK) (t tk : TA) : TE := fun σ H Q => t σ H fun vs H1 => tk σ H1 fun zs H2 => vs.length = n ∧ zs.length = m ∧ sp (gV vs zs) H2 Q (E σ)
theorem pe_callNS (F : FnOk X.prog X.w X.K X.mg X.base CX k f fd ps sp) (hr : Room k X.A) (hg : Gl X x) (hm : X.mg x = some (.ref f)) (hk : PySem.W.keepIn X.K (.ref f) = true) (hb : KBn X.K fd ps n ks g gV) (hx : ∀ σ, PassesAt CX X σ (E σ))
    (ha : PA X (e :: es) t) (hkw : PK X kws tk) (hall : (backToKw pos (keywordEach kws X.env)).all (·.1.isSome) = true := by rfl) (hks : (backToKw pos (keywordEach kws X.env)).filterMap (·.1) = ks := by rfl)
    (hdb : (x == ("__debug__" : Str)) = false := by decide) (he : starEach (e :: es) X.env = (false, eval e X.env) :: starEach es X.env := by rfl)
    (hpl : ((backTo pos (starEach (e :: es) X.env)).any (·.1) || (backToKw pos (keywordEach kws X.env)).any (·.1.isNone)) = false := by rfl) :
    PE X (.Call (.Name x p) (e :: es) kws pos) (tCallNS n ks.length sp gV E t tk) := by
  refine ⟨fun pins s σ H Q I h => ?_⟩
  refine wpAny_Call_Name_kw (ld_glob I hg hm ?_ hdb)
  refine PySem.W.callWith_KW (h₀ := X.base) I.ok.mod.kin hk hall (thn (ha.run pos pins s σ H _ I h) fun us s1 ⟨vs, H1, I1, r, q⟩ => ?_) hpl he
  refine thn (hkw.run pos pins s1 σ H1 _ I1 q) fun ws s2 ⟨zs, H2, I2, rz, l1, l2, q2⟩ => ⟨I2.kIn, ?_⟩
  rw [hks]
  exact run_fnNS F hr hb (hx σ) I2 r rz l1 l2 q2
/-- the module's name x holds a def of one parameter and a keyword-only one with a default; it may raise -/
structure CalX (P : Program) (w : World) (K : PySem.W.Frag) (mg : Str → Option Value) (base : Heap) (x y : Str) (k : Nat) (ps : List Str) (dv : V) (sp : Sp) : Prop where
  ex : ∃ (f : Addr) (fd : FuncData), FnOk P w K mg base (L2.CX P w) k f fd ps sp ∧ mg x = some (.ref f) ∧ PySem.W.keepIn K (.ref f) = true ∧ (∃ ds, Vals [dv] ds ∧ Binds K fd ps ds) ∧ KBn K fd ps 1 [y] (fun us ws => us ++ ws) (fun vs zs => vs ++ zs)
variable {y : Str} {dv : V} {W : WX} {tk1 : TA}
def tCalX (sp : Sp) (dv : V) (W : WX) (t : TA) : TE := fun σ H Q => t σ H fun vs H1 => sp (vs ++ [dv]) H1 Q (fun cls d H' => W cls d σ H')
def tCalXK (sp : Sp) (W : WX) (t tk : TA) : TE := fun σ H Q => t σ H fun vs H1 => tk σ H1 fun zs H2 => vs.length = 1 ∧ zs.length = 1 ∧ sp (vs ++ zs) H2 Q (fun cls d H' => W cls d σ H')
theorem pe_calX (c : CalX X.prog X.w X.K X.mg X.base x y k ps dv sp) (tkW : Takes X W) (hr : Room k X.A) (ha : PA X (e :: es) t) (hg : Gl X x := by rfl) (hdb : (x == ("__debug__" : Str)) = false := by decide)
    (he : starEach (e :: es) X.env = (false, eval e X.env) :: starEach es X.env := by rfl) (hpl : (backTo pos (starEach es X.env)).any (·.1) = false := by rfl) : PE X (.Call (.Name x p) (e :: es) [] pos) (tCalX sp dv W t) := by
  obtain ⟨f, fd, ok, hm, kp, ⟨ds, hv, hb⟩, _⟩ := c.ex
  have z := pe_callSD (E := fun σ cls d H' => W cls d σ H') ok hr hg hm kp hb hv (fun σ => passAt tkW σ) ha hdb he hpl (p := p)
  exact ⟨fun pins s σ H Q I h => z.run pins s σ H Q I h⟩
theorem pe_calXK (c : CalX X.prog X.w X.K X.mg X.base x y k ps dv sp) (tkW : Takes X W) (hr : Room k X.A) (ha : PA X (e :: es) t) (hkw : PK X kws tk1) (hg : Gl X x := by rfl) (hall : (backToKw pos (keywordEach kws X.env)).all (·.1.isSome) = true := by rfl) (hks : (backToKw pos (keywordEach kws X.env)).filterMap (·.1) = [y] := by rfl)
    (hdb : (x == ("__debug__" : Str)) = false := by decide) (he : starEach (e :: es) X.env = (false, eval e X.env) :: starEach es X.env := by rfl)
    (hpl : ((backTo pos (starEach (e :: es) X.env)).any (·.1) || (backToKw pos (keywordEach kws X.env)).any (·.1.isNone)) = false := by rfl) : PE X (.Call (.Name x p) (e :: es) kws pos) (tCalXK sp W t tk1) := by
  obtain ⟨f, fd, ok, hm, kp, _, hb⟩ := c.ex
  have z := pe_callNS (E := fun σ cls d H' => W cls d σ H') ok hr hg hm kp hb (fun σ => passAt tkW σ) ha hkw hall hks hdb he hpl (p := p)
  exact ⟨fun pins s σ H Q I h => z.run pins s σ H Q I h⟩
end
end Er
/-! zip of two tuples, walked; great products and quotients; xs[::-1]. -/
namespace Zx
open PySem PySem.Spec PyProof.Rows L2 Bx TL Dx
theorem walk_zipT {K : PySem.W.Frag} {a b : Addr} {xs ys : List V} {n : Nat} (hn : n = min xs.length ys.length) : Walk (RZ.ItzT K a b) n (fun H => SqT K H a xs ∧ SqT K H b ys) (YPair (fun i => xs[i]?) (fun i => ys[i]?)) := by
  subst hn
  refine ⟨fun i _ hi q => ?_, fun _ q => ⟨xs, ys, q.1, q.2, by omega⟩, fun i H v H' _ q y => ?_⟩
  · have h1 : i < xs.length := by omega
    have h2 : i < ys.length := by omega
    exact ⟨xs, ys, xs[i], ys[i], q.1, q.2, by simp [h1], by simp [h2]⟩
  · obtain ⟨T, x, z, h1, h2, h3, h4, h5⟩ := y
    exact ⟨T, x, z, h1, h2, h3, h4 xs q.1, h5 ys q.2⟩
end Zx
namespace Zx
open PySem PySem.Spec PyProof.Rows L2
theorem ne_t {p : Prop} [Decidable p] (h : (!decide p) = true) : ¬ p := by simpa using h
theorem ne_f {p : Prop} [Decidable p] (h : ¬ (!decide p) = true) : p := by simpa using h
theorem int_t {x y : Int} (h : decide (V.int x = V.int y) = true) : x = y := V.int.inj (of_decide_eq_true h)
theorem int_f {x y : Int} (h : ¬ decide (V.int x = V.int y) = true) : x ≠ y := fun e => h (decide_eq_true (congrArg V.int e))
theorem int_nt {x y : Int} (h : (!decide (V.int x = V.int y)) = true) : x ≠ y := fun e => ne_t h (congrArg V.int e)
theorem int_nf {x y : Int} (h : ¬ (!decide (V.int x = V.int y)) = true) : x = y := V.int.inj (ne_f h)
end Zx
namespace Zx
open PySem PySem.Spec PyProof.Rows L2 Bx
section
variable {K : PySem.W.Frag}
theorem ty_tup {H : Hp} {a : Addr} {xs : List V} (h : SqT K H a xs) : TyX K H (.ref a) (.type "tuple") := by
  rcases h with (h | ⟨o, h⟩) | h
  · exact .base (.tup h)
  · exact .fTuple h
  · obtain ⟨o, its, n, h1, h2, _⟩ := h
    exact .kTuple h1 h2
def spRight : Sp := fun vs H Q _ => ∃ a : Addr, vs = [.ref a] ∧ Src H a ∧ ∀ H', SameBut a H H' → Q (.bl true) H'
end
end Zx
namespace Zx
open PySem PySem.Spec PyProof.Rows L2 Bx
theorem cont_of {α : Type} {R X : α → Prop} {G : Prop} (first : (∀ a, R a → X a) → G) (rest : ∀ a, R a → X a) : G := first rest
theorem cont_of2 {α β : Type} {R X : α → β → Prop} {G : Prop} (first : (∀ a b, R a b → X a b) → G) (rest : ∀ a b, R a b → X a b) : G := first rest
theorem but_new {a : Addr} {H H3 : Hp} {p : Addr} {o : HO} (h : H p = none) (s : SameBut a (upd H p o) H3) : SameBut a H H3 := fun b x n e => s b x n (by rw [upd_ne (ne_of_none e h)]; exact e)
theorem but_at {a : Addr} {H H2 : Hp} {p : Addr} {o : HO} (h : H p = none) (s : SameBut a H H2) : SameBut a H (upd H2 p o) := fun b x n e => by
  rw [upd_ne (ne_of_none e h)]
  exact s b x n e
theorem src_same {a : Addr} {H1 H2 : Hp} (s : Src H1 a) (t : Same H1 H2) : Src H2 a := by
  obtain ⟨n, c, h⟩ := s
  exact ⟨n, c, t _ _ h⟩
theorem src_ne {a o : Addr} {H : Hp} (s : Src H a) (h : H o = none) : a ≠ o := by
  obtain ⟨n, c, z⟩ := s
  exact ne_of_none z h
theorem but_free {a o : Addr} {H H1 : Hp} (s : SameBut a H H1) (n : o ≠ a) (h : H1 o = none) : H o = none := by
  cases e : H o with
  | none => rfl
  | some x =>
    rw [s o x n e] at h
    cases h
theorem src_upd {a o : Addr} {H : Hp} {u : HO} (s : Src H a) (n : a ≠ o) : Src (upd H o u) a := by
  obtain ⟨x, c, h⟩ := s
  exact ⟨x, c, by rw [upd_ne n]; exact h⟩

end Zx
namespace Zx
open PySem PySem.Spec PyProof.Rows L2 Bx
theorem set_same {σ : L2.St} {i : Nat} {v : V} (h : σ[i]? = some (some v)) : σ.set i (some v) = σ := by
  obtain ⟨hi, e⟩ := List.getElem?_eq_some_iff.mp h
  rw [← e]
  exact List.set_getElem_self hi
/-- if c: name = e -/
theorem if_asg {c : Prop} [Decidable c] {te : TE} {i : Nat} {D : Ends} {σ : L2.St} {H : Hp} {old : V} (R : V → Hp → Prop) (hi : σ[i]? = some (some old))
    (h1 : c → ∀ Z : V → Hp → Prop, (∀ v H', R v H' → Z v H') → te σ H Z) (h2 : ¬ c → R old H) (rest : ∀ v H', R v H' → D.nx (σ.set i (some v)) H') : if c then tAsg te (gName i) D σ H else tNext D σ H := by
  split
  · rename_i h
    exact h1 h (fun v H' => D.nx (σ.set i (some v)) H') rest
  · rename_i h
    have := rest old H (h2 h)
    rw [set_same hi] at this
    exact this
/-- if c: name = e else: name = f -/
theorem if_asg2 {c : Prop} [Decidable c] {te tf : TE} {i : Nat} {D : Ends} {σ : L2.St} {H : Hp} (R : V → Hp → Prop)
    (h1 : c → ∀ Z : V → Hp → Prop, (∀ v H', R v H' → Z v H') → te σ H Z) (h2 : ¬ c → ∀ Z : V → Hp → Prop, (∀ v H', R v H' → Z v H') → tf σ H Z) (rest : ∀ v H', R v H' → D.nx (σ.set i (some v)) H') : if c then tAsg te (gName i) D σ H else tAsg tf (gName i) D σ H := by
  split
  · rename_i h
    exact h1 h (fun v H' => D.nx (σ.set i (some v)) H') rest
  · rename_i h
    exact h2 h (fun v H' => D.nx (σ.set i (some v)) H') rest
end Zx
/-! sorted(xs), xs a list of data (alike tuples, ..), any length: the stable sort by the order of data. -/
namespace So
open PySem PySem.Spec PyProof.Rows L2 Bx TL Dx PySem.W
section
variable {X : Cx} {pins : List (Addr × Obj)} {σ : L2.St} {H : Hp} {s : Shared}
theorem each_of (I : Inv X pins σ H s) : ∀ {vs : List V} {us : List Value} {ds : List PyData}, DpAll X.K H vs ds → Vals vs us → EachIs (fun u d => (∃ v, Dp X.K H v d ∧ L2.RelV v u) ∧ ∃ as, Reads s.heap u d as) us ds
  | [], [], [], _, _ => .nil
  | v :: vs, u :: us, d :: ds, h, r => by
    cases h with
    | cons h1 h2 =>
      cases r with
      | cons r1 r2 => exact .cons ⟨⟨v, h1, r1⟩, Dp.reads I d v u h1 r1⟩ (each_of I h2 r2)
  | [], _ :: _, _, _, r => by cases r
  | _ :: _, [], _, _, r => by cases r
  | [], [], _ :: _, h, _ => by cases h
  | _ :: _, _ :: _, [], h, _ => by cases h
theorem each_back {K : Frag} : ∀ {us : List Value} {ds : List PyData}, EachIs (fun u d => ∃ v, Dp K H v d ∧ L2.RelV v u) us ds → ∃ vs, Vals vs us ∧ DpAll K H vs ds
  | _, _, .nil => ⟨[], .nil, .nil⟩
  | _, _, .cons ⟨v, h, r⟩ t => by
    obtain ⟨vs, r2, h2⟩ := each_back t
    exact ⟨v :: vs, .cons r r2, .cons h h2⟩
def dle : PyData → PyData → Bool := dataLe false id
def rSortD (K : Frag) : List V → Hp → VK → Prop := fun xs H Q => ∃ (a : Addr) (vs : List V) (ds : List PyData), xs = [V.ref a] ∧ SqL K H a vs ∧ DpAll K H vs ds ∧ AllAlike ds ∧ Sortable ds ∧ ds.length ≤ sizeLine ∧ (∀ d ∈ ds, d.depth ≤ 60) ∧
  ∀ (ys : List V) (p : Addr), H p = none → DpAll K H ys (ds.mergeSort dle) → Q (.ref p) (upd H p (.lst ys))
theorem cr_sortD (hu : X.A.units + 65 < cLine) : CallR X (.builtin "sorted") (rSortD X.K) := by
  intro pins s σ H xs us Q I r h
  obtain ⟨a, vs, ds, rfl, hs, hd, hal, hso, hz, hdp, q⟩ := h
  cases r with
  | cons r1 r2 =>
    cases r2
    cases r1
    obtain ⟨its, rv, hl, _⟩ := I.list hs
    have ea := each_of I hd rv
    refine sorted_data (bs := ds) (enc := id) (R := fun u d => ∃ v, Dp X.K H v d ∧ L2.RelV v u) hl.isList (ea.mono fun _ _ z => z.1) (ea.mono fun _ _ z => z.2) (by rw [List.map_id]; exact hal) (by rw [List.map_id]; exact hso) hz (fun d hd => ?_) fun out hlen eo => ?_
    · have := hdp d hd
      show X.A.units + 2 + d.depth < cLine
      omega
    · obtain ⟨ys, ry, dy⟩ := each_back eo
      obtain ⟨ep, he'⟩ := PyProof.Rows.sortedAll_at s.heap its out.toArray
      have hyl : ys.length = ds.length := by rw [ry.length, hlen]
      exact ⟨.ref _, upd H (s.heap.objs.size + 1) (.lst ys), I.laid (t' := s.toks) (fun _ _ => PyProof.Rows.sortedAll_old) (Nat.le_succ _) ⟨by rw [hyl]; exact hz, out, ep, ry, by simpa using he'⟩, rfl, q ys _ (I.hok.fresh (Nat.le_succ _)) dy⟩
end
end So
/-! sorted(xs) of data as in So, and what every member keeps. -/
namespace So
open PySem PySem.Spec PyProof.Rows L2 Bx TL Dx PySem.W
section
variable {X : Cx} {pins : List (Addr × Obj)} {σ : L2.St} {H : Hp} {s : Shared}
theorem each_ofP {Pr : V → PyData → Prop} (I : Inv X pins σ H s) : ∀ {vs : List V} {us : List Value} {ds : List PyData}, DpAll X.K H vs ds → Vals vs us → Paired Pr vs ds → EachIs (fun u d => (∃ v, (Dp X.K H v d ∧ L2.RelV v u) ∧ Pr v d) ∧ ∃ as, Reads s.heap u d as) us ds
  | [], [], [], _, _, _ => .nil
  | v :: vs, u :: us, d :: ds, h, r, p => by
    cases p with
    | cons p1 p2 =>
    cases h with
    | cons h1 h2 =>
      cases r with
      | cons r1 r2 => exact .cons ⟨⟨v, ⟨h1, r1⟩, p1⟩, Dp.reads I d v u h1 r1⟩ (each_ofP I h2 r2 p2)
  | [], _ :: _, _, _, r, _ => by cases r
  | _ :: _, [], _, _, r, _ => by cases r
  | [], [], _ :: _, h, _, _ => by cases h
  | _ :: _, _ :: _, [], h, _, _ => by cases h
theorem each_backP {K : Frag} {Pr : V → PyData → Prop} : ∀ {us : List Value} {ds : List PyData}, EachIs (fun u d => ∃ v, (Dp K H v d ∧ L2.RelV v u) ∧ Pr v d) us ds → ∃ vs, Vals vs us ∧ DpAll K H vs ds ∧ Paired Pr vs ds
  | _, _, .nil => ⟨[], .nil, .nil, .nil⟩
  | _, _, .cons ⟨v, ⟨h, r⟩, p⟩ t => by
    obtain ⟨vs, r2, h2, p2⟩ := each_backP t
    exact ⟨v :: vs, .cons r r2, .cons h h2, .cons p p2⟩
def rSortP (K : Frag) : List V → Hp → VK → Prop := fun xs H Q => ∃ (Pr : V → PyData → Prop) (a : Addr) (vs : List V) (ds : List PyData), Paired Pr vs ds ∧ xs = [V.ref a] ∧ SqL K H a vs ∧ DpAll K H vs ds ∧ AllAlike ds ∧ Sortable ds ∧ ds.length ≤ sizeLine ∧ (∀ d ∈ ds, d.depth ≤ 60) ∧
  ∀ (ys : List V) (p : Addr), H p = none → DpAll K H ys (ds.mergeSort dle) → Paired Pr ys (ds.mergeSort dle) → Q (.ref p) (upd H p (.lst ys))
theorem cr_sortP (hu : X.A.units + 65 < cLine) : CallR X (.builtin "sorted") (rSortP X.K) := by
  intro pins s σ H xs us Q I r h
  obtain ⟨Pr, a, vs, ds, hPr, rfl, hs, hd, hal, hso, hz, hdp, q⟩ := h
  cases r with
  | cons r1 r2 =>
    cases r2
    cases r1
    obtain ⟨its, rv, hl, _⟩ := I.list hs
    have ea := each_ofP I hd rv hPr
    refine sorted_data (bs := ds) (enc := id) (R := fun u d => ∃ v, (Dp X.K H v d ∧ L2.RelV v u) ∧ Pr v d) hl.isList (ea.mono fun _ _ z => z.1) (ea.mono fun _ _ z => z.2) (by rw [List.map_id]; exact hal) (by rw [List.map_id]; exact hso) hz (fun d hd => ?_) fun out hlen eo => ?_
    · have := hdp d hd
      show X.A.units + 2 + d.depth < cLine
      omega
    · obtain ⟨ys, ry, dy, py⟩ := each_backP eo
      obtain ⟨ep, he'⟩ := PyProof.Rows.sortedAll_at s.heap its out.toArray
      have hyl : ys.length = ds.length := by rw [ry.length, hlen]
      exact ⟨.ref _, upd H (s.heap.objs.size + 1) (.lst ys), I.laid (t' := s.toks) (fun _ _ => PyProof.Rows.sortedAll_old) (Nat.le_succ _) ⟨by rw [hyl]; exact hz, out, ep, ry, by simpa using he'⟩, rfl, q ys _ (I.hok.fresh (Nat.le_succ _)) dy py⟩
end
end So
/-! Own classes: methods that operators and built-ins call. -/
namespace Ow
open PySem PySem.Spec PyProof.Rows L2 Bx TL Dx Zx
/-- the class at C (or one above it) has the method m, a def that keeps sp -/
structure OwM (P : Program) (w : World) (K : PySem.W.Frag) (mg : Str → Option Value) (base : Heap) (CX : CXT) (C : Addr) (m : Str) (k : Nat) (ps : List Str) (sp : Sp) : Prop where
  ex : ∃ (f : Addr) (fd : FuncData), FnOk P w K mg base CX k f fd ps sp ∧ PySem.W.findIn K (.ref C) m = some (some (.ref f)) ∧ PySem.W.isFn K (.ref f) = true ∧ PySem.W.keepIn K (.ref f) = true ∧ Binds K fd ps []
section
variable {X : Cx} {pins : List (Addr × Obj)} {σ : L2.St} {H : Hp} {s : Shared} {C a dx : Addr} {fs : List (Str × V)}
/-- an instance as the library's operators see it -/
theorem inst_of (I : Inv X pins σ H s) (e : H a = some (.ins C dx fs)) : ∃ od, PySem.W.InstAt s.heap a (PySem.W.instObj C dx) C (some od) := by
  obtain ⟨mA, J, _⟩ := ins_get I.hok e
  obtain ⟨od, J2, _⟩ := J.look
  exact ⟨od, J2⟩
/-- a def is called, somewhere within -/
theorem call_at {CX : CXT} {k : Nat} {f : Addr} {fd : FuncData} {ps : List Str} {sp : Sp} {A1 : Around} {us : List Value} {vs : List V} {Q : VK} {E : XK} {E1 : Value → Shared → Prop} (sb : Sub X k A1) (ok : FnOk X.prog X.w X.K X.mg X.base CX k f fd ps sp) (b : Binds X.K fd ps [])
    (I : Inv X pins σ H s) (r : Vals vs us) (hsp : sp vs H Q E) (hx : ∀ e s', CX X.stack H s E e s' → E1 e s') : wpAny (model X.prog X.w) A1 (call (.ref f) us) (EP X pins σ Q) E1 s := by
  have z0 := I.env0
  have e0 : Env0 X.prog X.w X.K X.mg X.base A1 X.stack s H := ⟨by rw [sb.fr]; exact z0.frames, z0.mod, z0.bs, z0.bsz, z0.funs, z0.frf, z0.hok, z0.bare⟩
  have n1 := ok.len _ _ _ _ hsp
  have n2 : us.length = ps.length := by rw [← r.length]; exact n1
  have bb := b s us I.kIn (by rw [List.append_nil]; exact n2)
  rw [List.append_nil] at bb
  refine wpAny_call (codeAny_mono (ok.run A1 X.stack s H ⟨us, []⟩ us vs Q E sb.room e0 bb r hsp) fun res s' back => ?_)
  match res, back with
  | .error e, back => exact hx e s' back
  | .ok (.ret u), back => exact I.after back
  | .ok .next, back => exact back.elim
  | .ok .brk, back => exact back.elim
  | .ok .cont, back => exact back.elim
theorem sub_self {n : Nat} (hr : Room n X.A) : Sub X n X.A := ⟨hr, rfl⟩
/-- len(o) -/
def rLenO (C : Addr) (sp : Sp) : List V → Hp → VK → Prop := fun xs H Q => ∃ a dx fs, xs = [.ref a] ∧ H a = some (.ins C dx fs) ∧ sp [.ref a] H (fun v H' => ∃ n : Nat, v = .int (n : Int) ∧ n < 2 ^ 62 ∧ Q (.int (n : Int)) H') E0
theorem call_lenO {k : Nat} {ps : List Str} {sp : Sp} (c : OwM X.prog X.w X.K X.mg X.base CX0 C "__len__" k ps sp) (hr : Room (k + 1) X.A) : CallR X (.builtin "len") (rLenO C sp) := by
  intro pins s σ H xs us Q I r h
  obtain ⟨a, dx, fs, rfl, ha, hsp⟩ := h
  obtain ⟨f, fd, ok, hs, hf, _, hb⟩ := c.ex
  obtain ⟨od, J⟩ := inst_of I ha
  obtain ⟨m, hF⟩ := I.fr
  have r0 := r
  cases r with
  | cons r1 r2 =>
    cases r2
    cases r1
    refine PySem.W.len_K hF I.ok.mod.kin J hs hf ?_
    refine wpAny_mono (call_at ((sub_self hr).in1) ok hb I r0 hsp (fun e s' z => z.elim)) (fun u s' hu => ?_) (fun _ _ z => z)
    obtain ⟨v, H', I', rv, n, rfl, hn, hq⟩ := hu
    obtain ⟨t, rfl⟩ := rv
    exact ⟨⟨by omega, by omega⟩, .int n, H', I'.tok _, ⟨_, rfl⟩, hq⟩
/-- x in o, x not in o -/
def rInO (C : Addr) (sp : Sp) (neg : Bool) : V → V → Hp → VK → Prop := fun x y H Q => ∃ a dx fs, y = .ref a ∧ H a = some (.ins C dx fs) ∧ sp [.ref a, x] H (fun v H' => ∃ b : Bool, v = .bl b ∧ Q (.bl (b != neg)) H') E0
theorem truth_bl {M : Model} {A : Around} {E : Value → Shared → Prop} {s : Shared} {b : Bool} {Q : Bool → Shared → Prop} (h : Q b s) : wpAny M A (truthy (.bool b)) Q E s := by
  unfold truthy
  exact wpAny_pure h
theorem op_inO {k : Nat} {ps : List Str} {sp : Sp} (c : OwM X.prog X.w X.K X.mg X.base CX0 C "__contains__" k ps sp) (hr : Room k X.A) : OpR X (compareOp .In) (rInO C sp false) := by
  intro pins s σ H x y u v Q I rx ry h
  obtain ⟨a, dx, fs, rfl, ha, hsp⟩ := h
  obtain ⟨f, fd, ok, hs, hf, _, hb⟩ := c.ex
  obtain ⟨od, J⟩ := inst_of I ha
  obtain ⟨m, hF⟩ := I.fr
  cases ry
  refine PySem.W.in_K hF I.ok.mod.kin J hs hf ?_
  refine wpAny_mono (call_at (sub_self hr) ok hb I (vs := [.ref a, x]) (.cons rfl (.cons rx .nil)) hsp (fun e s' z => z.elim)) (fun u s' hu => ?_) (fun _ _ z => z)
  obtain ⟨v, H', I', rv, b, rfl, hq⟩ := hu
  cases rv
  refine truth_bl ⟨.bl b, H', I', rfl, ?_⟩
  rw [show (b != false) = b by cases b <;> rfl] at hq
  exact hq
theorem op_notInO {k : Nat} {ps : List Str} {sp : Sp} (c : OwM X.prog X.w X.K X.mg X.base CX0 C "__contains__" k ps sp) (hr : Room k X.A) : OpR X (compareOp .NotIn) (rInO C sp true) := by
  intro pins s σ H x y u v Q I rx ry h
  obtain ⟨a, dx, fs, rfl, ha, hsp⟩ := h
  obtain ⟨f, fd, ok, hs, hf, _, hb⟩ := c.ex
  obtain ⟨od, J⟩ := inst_of I ha
  obtain ⟨m, hF⟩ := I.fr
  cases ry
  refine PySem.W.notIn_K hF I.ok.mod.kin J hs hf ?_
  refine wpAny_mono (call_at (sub_self hr) ok hb I (vs := [.ref a, x]) (.cons rfl (.cons rx .nil)) hsp (fun e s' z => z.elim)) (fun u s' hu => ?_) (fun _ _ z => z)
  obtain ⟨v, H', I', rv, b, rfl, hq⟩ := hu
  cases rv
  refine truth_bl ⟨.bl (!b), H', I', rfl, ?_⟩
  rw [show (b != true) = !b by cases b <;> rfl] at hq
  exact hq
end
end Ow
/-! Own classes: o[i], o op x, loops over o. -/
namespace Ow
open PySem PySem.Spec PyProof.Rows L2 Bx TL Dx Zx ItX
/-! ### o[i] -/
section
variable {X : Cx} {C : Addr} {CXc : CXT} {k : Nat} {ps : List Str} {sp : Sp} {W : WX} {a b : Expr} {ta tb : TE} {pos : Pos}
def tSubO (C : Addr) (sp : Sp) (W : WX) (ta tb : TE) : TE := fun σ H Q => ta σ H fun x H1 => tb σ H1 fun y H2 => ∃ p dx fs, x = .ref p ∧ H2 p = some (.ins C dx fs) ∧ sp [.ref p, y] H2 Q (fun cls d H' => W cls d σ H')
theorem pe_subO (c : OwM X.prog X.w X.K X.mg X.base CXc C "__getitem__" k ps sp) (fi : ∀ f, PySem.W.findIn X.K (.ref C) "__getitem__" = some (some (.ref f)) → PySem.W.fnIn X.K f = true) (hr : Room (k + 1) X.A) (hx : ∀ σ, PassesAt CXc X σ (fun cls d H' => W cls d σ H')) (ha : PE X a ta) (hb : PE X b tb)
    (hs : ∀ v u, subscripted b true v u = runValue (.builtin "lifetime.subscript" ⟨[v, u], []⟩) := by intro _ _; rfl) : PE X (.Subscript a b pos) (tSubO C sp W ta tb) := by
  refine ⟨fun pins s σ H Q I h => ?_⟩
  refine Subscript_ (binT ha hb I (R := fun x y H2 => ∃ p dx fs, x = .ref p ∧ H2 p = some (.ins C dx fs) ∧ sp [.ref p, y] H2 Q (fun cls d H' => W cls d σ H')) h fun v u s2 x y H2 I2 rx ry q => ?_)
  obtain ⟨p, dx, fs, rfl, hp, hsp⟩ := q
  obtain ⟨f, fd, ok, hfi, hf, _, hbd⟩ := c.ex
  obtain ⟨od, J⟩ := inst_of I2 hp
  obtain ⟨m, hF⟩ := I2.fr
  cases rx
  refine PySem.W.sub_K hF I2.ok.mod.kin J hfi (fi f hfi) hf ?_ (hs _ _)
  exact call_at ((sub_self hr).in1) ok hbd I2 (vs := [.ref p, y]) (.cons rfl (.cons ry .nil)) hsp (fun e s' z => hx σ pins H2 s2 e s' I2 z)
end
/-! ### o op x, x of a built-in type -/
/-- what the written part says of an operator of C with a second operand of the built-in type T -/
structure BinF (K : PySem.W.Frag) (C : Addr) (op : Operator) (T : String) : Prop where
  first : PySem.W.selfFirst K C = true
  refl : ∃ rc, PySem.W.findIn K (.ref C) (dunderR op.info.2) = some rc ∧ (rc = none ∨ ∃ g : Addr, rc = some (.ref g))
  t1 : ∃ fo, PySem.W.findIn K (.type T) (PySem.dunder op.info.2) = some fo
  t2 : ∃ ro, PySem.W.findIn K (.type T) (dunderR op.info.2) = some ro
  sub : PySem.W.subIn K (.type T) (.ref C) = some false
/-- the type of a value, looked at -/
def LkT (M : Model) (h : Heap) (v : Value) (T : String) : Prop := PySem.W.Looks M h (typeOf v) (.type T)
theorem bin_looks {prog : Program} {w : World} {A : Around} {E : Value → Shared → Prop} {s : Shared} {K : PySem.W.Frag} {x C f : Addr} {ox : Obj} {od : Option Obj} {T : String} {op : Operator} {b : Value} {Q : Value → Shared → Prop}
    (X : K.In s.heap) (I : PySem.W.InstAt s.heap x ox C od) (B : BinF K C op T) (hb : LkT (model prog w) s.heap b T) (hs : PySem.W.findIn K (.ref C) (PySem.dunder op.info.2) = some (some (.ref f))) (hf : PySem.W.isFn K (.ref f) = true)
    (h : wpAny (model prog w) A (call (.ref f) [.ref x, b]) (PySem.W.CmpBack Q) E s) : wpAny (model prog w) A (binaryOp op (.ref x) b) Q E s := by
  obtain ⟨hc, ⟨rc, hrc, hrp⟩, ⟨fo, h1⟩, ⟨ro, h2⟩, hsub⟩ := B
  obtain ⟨cd, rest, hcd, hm⟩ := PySem.W.ksp_first hc
  cases hi : op.info with
  | mk sym nm =>
    rw [hi] at hs hrc h1 h2
    dsimp only at hs hrc h1 h2
    have called := PySem.W.ksp_try X I hs hf h
    have d1 : PySem.W.Looks (model prog w) s.heap (typeOf (.ref x)) (.ref C) := I.type
    have d3 : PySem.W.Looks (model prog w) s.heap (fillsNumberSlot (.ref C) nm) true := PySem.W.fills_K X hcd hm hs
    have d4 := PySem.W.ksp_fillsT (M := model prog w) X h1 h2
    have d5 : PySem.W.Looks (model prog w) s.heap (isSubtype (.type T) (.ref C)) false := PySem.W.looks_subIn X hsub
    have d6 : PySem.W.Looks (model prog w) s.heap (numberSlotInPython (.ref C) nm) true := PySem.W.ksp_inPy X hs hrc hrp
    have d7 : PySem.W.Looks (model prog w) s.heap (numberSlotInPython (.type T) nm) false := PySem.W.Looks.of_pure rfl
    have d8 : PySem.W.Looks (model prog w) s.heap (typeLookup (.type T) (dunderR nm)) ro := PySem.W.looks_findIn X h2
    unfold LkT at hb
    clear X I hs hf h
    obtain ⟨hp, g, dd, tt, os⟩ := s
    generalize ((fo.isSome && !isSeqSlot fo) || (ro.isSome && !isSeqSlot ro)) = right at d4
    have other : (Value.ref C == Value.type T) = false := by
      cases z : (Value.ref C == Value.type T) with
      | false => rfl
      | true => cases beq_iff_eq.mp z
    simp only [binaryOp, hi]
    refine wpAny_holding (wpAny_bind ?_)
    unfold binaryOp1
    refine wpAny_bind (d1.at (wpAny_bind ?_))
    refine hb.at (wpAny_bind (d3.at ?_))
    simp only [other, Bool.false_eq_true, if_false]
    cases right
    · ksp_lk
      refine wpAny_mono called (fun r s' z => ?_) fun _ _ e => e
      obtain ⟨v, rfl, z⟩ := z
      ksp_lk
      exact z
    · ksp_lk
      refine wpAny_mono called (fun r s' z => ?_) fun _ _ e => e
      obtain ⟨v, rfl, z⟩ := z
      ksp_lk
      exact z
end Ow
namespace Ow
open PySem PySem.Spec PyProof.Rows L2 Bx TL Dx Zx ItX
section
variable {X : Cx} {pins : List (Addr × Obj)} {σ : L2.St} {H : Hp} {s : Shared}
/-- the built-in types of second operands -/
inductive TyO (K : PySem.W.Frag) (H : Hp) : V → String → Prop
  | int (i : Int) : TyO K H (.int i) "int"
  | str (z : Str) : TyO K H (.str z) "str"
  | tup {p : Addr} {xs : List V} (h : SqT K H p xs) : TyO K H (.ref p) "tuple"
theorem lk_of {y : V} {v : Value} {T : String} (I : Inv X pins σ H s) (r : RelV y v) (t : TyO X.K H y T) : LkT (model X.prog X.w) s.heap v T := by
  cases t with
  | int i =>
    obtain ⟨u, rfl⟩ := r
    exact PySem.W.Looks.of_pure rfl
  | str z =>
    obtain ⟨u, rfl⟩ := r
    exact PySem.W.Looks.of_pure rfl
  | tup h =>
    cases r
    obtain ⟨its, rv, ht, _⟩ := I.tuple h
    obtain ⟨o, ho, hc, _⟩ := ht
    unfold LkT
    rw [← hc]
    exact (PySem.W.Looks.ld ho).andThen .now
theorem back_ep {Q : VK} {u : Value} {s' : Shared} (h : EP X pins σ Q u s') : PySem.W.CmpBack (EP X pins σ Q) u s' := by
  obtain ⟨v, H', I', r, q⟩ := h
  have h2 : EP X pins σ Q u s' := ⟨v, H', I', r, q⟩
  cases v with
  | non => cases r; exact h2
  | bl b => cases r; exact h2
  | int i => obtain ⟨t, rfl⟩ := r; exact h2
  | str z => obtain ⟨t, rfl⟩ := r; exact h2
  | byt b => obtain ⟨t, rfl⟩ := r; exact h2
  | flt b => obtain ⟨t, rfl⟩ := r; exact h2
  | ref a => cases r; exact h2
  | ty n => cases r; exact h2
end
section
variable {X : Cx} {C : Addr} {CXc : CXT} {k : Nat} {ps : List Str} {sp : Sp} {W : WX} {a b : Expr} {ta tb : TE} {pos : Pos} {op : Operator} {T m : String}
def tBinO (K : PySem.W.Frag) (C : Addr) (T : String) (sp : Sp) (W : WX) (ta tb : TE) : TE := fun σ H Q => ta σ H fun x H1 => tb σ H1 fun y H2 => ∃ p dx fs, x = .ref p ∧ H2 p = some (.ins C dx fs) ∧ TyO K H2 y T ∧ sp [.ref p, y] H2 Q (fun cls d H' => W cls d σ H')
theorem pe_binO (c : OwM X.prog X.w X.K X.mg X.base CXc C (PySem.dunder op.info.2) k ps sp) (B : BinF X.K C op T) (hr : Room k X.A) (hx : ∀ σ, PassesAt CXc X σ (fun cls d H' => W cls d σ H')) (ha : PE X a ta) (hb : PE X b tb) : PE X (.BinOp a op b pos) (tBinO X.K C T sp W ta tb) := by
  refine ⟨fun pins s σ H Q I h => ?_⟩
  refine wpAny_BinOp (binT ha hb I (R := fun x y H2 => ∃ p dx fs, x = .ref p ∧ H2 p = some (.ins C dx fs) ∧ TyO X.K H2 y T ∧ sp [.ref p, y] H2 Q (fun cls d H' => W cls d σ H')) h fun v u s2 x y H2 I2 rx ry q => ?_)
  obtain ⟨p, dx, fs, rfl, hp, ht, hsp⟩ := q
  obtain ⟨f, fd, ok, hfi, hf, _, hbd⟩ := c.ex
  obtain ⟨od, J⟩ := inst_of I2 hp
  cases rx
  refine bin_looks I2.kIn J B (lk_of I2 ry ht) hfi hf ?_
  refine wpAny_mono (call_at (sub_self hr) ok hbd I2 (vs := [.ref p, y]) (.cons rfl (.cons ry .nil)) hsp (fun e s' z => hx σ pins H2 s2 e s' I2 z)) (fun u s' z => back_ep z) fun _ _ z => z
end
/-! ### iter(t), t a tuple -/
def TiO (t it : Addr) : HO := .ext fun h => h.IsTupleIter it t 0
theorem tiO_ok {P : Program} {w : World} {H : Hp} {h : Heap} {t it : Addr} (e : h.IsTupleIter it t 0) : ObjOk P w H h it (TiO t it) := by
  obtain ⟨o, ho, hc, hd⟩ := id e
  exact ⟨e, ⟨o, ho⟩, fun h1 h2 z k => z.at fun o e => k _ e⟩
def rIterT (K : PySem.W.Frag) (n : Nat) : List V → Hp → VK → Prop := fun xs H Q => ∃ (t : Addr) (zs : List V), xs = [.ref t] ∧ SqT K H t zs ∧ ∀ it, H it = none → n ≤ it → Q (.ref it) (upd H it (TiO t it))
theorem call_iterT {X : Cx} : CallR X (.builtin "iter") (rIterT X.K X.s_0.heap.objs.size) := by
  intro pins s σ H xs us Q I r h
  obtain ⟨t, zs, rfl, hq, q⟩ := h
  cases r with
  | cons r1 r2 =>
    cases r2
    cases r1
    obtain ⟨its, rv, pl, hz⟩ := I.tuple hq
    refine Calls.call_function_entry (by decide +kernel) (by decide +kernel) PySem.W.kdk_entry_iter (PySem.W.kdk_args_iter _) ?_
    unfold Builtin.«iter»
    refine wpAny_bind (m := someArgs "iter" 1 2 _) (wpAny_of_eq (a := [Value.ref t]) (by first | rfl | kernel_rfl!) ?_)
    show wpAny _ _ (pyIter (.ref t) >>= _) _ _ _
    refine wpAny_bind (wpAny_pyIter_tuple pl ?_)
    refine wpAny_pure ⟨_, rfl, .ref s.heap.objs.size, _, I.laid (t' := s.toks) (fun b u e => Heap.get?_push_of_some _ e) (Nat.le_refl _) (tiO_ok ⟨_, Heap.get?_push_size _ rfl, rfl, rfl⟩), rfl, q _ (I.hok.fresh (Nat.le_refl _)) I.sz⟩
end Ow
namespace Ow
open PySem PySem.Spec PyProof.Rows L2 Bx TL Dx Zx ItX
/-- a def of the text, called at a state that one knows -/
theorem run_here {CX : CXT} {P : Program} {w : World} {K : PySem.W.Frag} {mg : Str → Option Value} {base : Heap} {k : Nat} {f : Addr} {nm qn : Str} {params : Arguments} {body : List Stmt} {scope : Scope} {dV kV doc pm cdv ct oc : Value} {an od : Option Addr} {osl : Array (Option Value)} {N ps : List Str}
    {A : Around} {outer : List Env} {s : Shared} {H : Hp} {args : Args} {us : List Value} {vs : List V} {Q : VK} {E : XK} (lk : K.lookup f = some ⟨oc, od, .func (PySem.W.fnOf nm qn params body scope dV kV doc pm an cdv ct), osl⟩) (cd : PySem.W.codeIn K cdv qn = true) (S : FnScope N ps scope) (room : Room (k + 1) A)
    (e0 : Env0 P w K mg base A outer s H) (hb : BindsTo s (PySem.W.fnOf nm qn params body scope dV kV doc pm an cdv ct) args (ps.zip us)) (rel : Vals vs us) (len : vs.length = ps.length)
    (reads : Room k (A.deeper (envOfC qn scope s.heap.objs.size f cdv)) → ∃ t, PSs (cxOf CX P w K mg base N qn scope f cdv A outer s H E) body t ∧ t { nx := fun _ H' => Q .non H', rt := Q } (start N vs) H) :
    codeAny (model P w) A (.call (.ref f) args) (CR CX outer P w H s Q E) s := by
  have kx : K.In s.heap := e0.mod.kin.keeps (fun p q z => (e0.bs p q z).1)
  have open_ : s.heap.NoLimit := e0.mod.nolimit.keeps (fun p q z => (e0.bs p q z).1)
  have kinds : ∀ y ∈ ps.zip us, scope.names.lookup y.1 = some .local ∨ (scope.names.lookup y.1 = some .cell ∧ ((cellsFrom (s.heap.objs.size + 1) scope.names []).lookup y.1).isSome = true) := by
    rintro ⟨one, val⟩ hy
    exact (S.par one (List.of_mem_zip hy).1).imp id (fun q => ⟨q, PySem.W.cellsFrom_some _ _ _ (.inl q)⟩)
  refine codeAny_call_function room.depth (kx _ _ lk) rfl S.co S.gen rfl (PySem.W.codeRec_of kx cd) ?_
  refine hb _ _ _ _ ?_
  refine wpAny_newFunctionEnv_cells S.kind kinds (fun env he s1 x => ?_)
  cases he
  refine ⟨open_.keeps x.toInCall.keep, codeAny_func ?_⟩
  obtain ⟨t, pt, ht⟩ := reads (room.deeper _)
  have J0 := inv_start (CX := CX) (E := E) S room.hd e0 len rel x
  refine wpAny_mono (pt.run [] s1 (start N vs) H _ J0 ht) ?_ (fun e s' z => z)
  intro fl s' back
  match fl, back with
  | .ret u, ⟨v, σ', H', J, rv, q⟩ => exact ⟨v, H', J.os, J.bare, J.base, J.hok, rv, q⟩
  | .next, ⟨σ', H', J, q⟩ => exact ⟨V.non, H', J.os, J.bare, J.base, J.hok, rfl, q⟩
  | .brk, ⟨_, _, _, q⟩ => exact q.elim
  | .cont, ⟨_, _, _, q⟩ => exact q.elim
/-! ### for x in o, where def __iter__(self): return iter(self.f) -/
structure ItM (P : Program) (w : World) (K : PySem.W.Frag) (mg : Str → Option Value) (base : Heap) (C : Addr) (f : Str) (k : Nat) : Prop where
  ex : ∃ fi : Addr, PySem.W.findIn K (.ref C) "__iter__" = some (some (.ref fi)) ∧ PySem.W.isFn K (.ref fi) = true ∧
    ∀ (A : Around) (outer : List Env) (s : Shared) (H : Hp) (E : XK) (p dx t : Addr) (fs : List (Str × V)) (zs : List V), Room k A → Env0 P w K mg base A outer s H → H p = some (.ins C dx fs) → fs.lookup f = some (.ref t) → SqT K H t zs →
      codeAny (model P w) A (.call (.ref fi) ⟨[.ref p], []⟩) (CR CX0 outer P w H s (fun v H' => ∃ it, v = .ref it ∧ H it = none ∧ s.heap.objs.size ≤ it ∧ H' = upd H it (TiO t it)) E) s
section
variable {X : Cx} {C : Addr}
def tIterO (K : PySem.W.Frag) (C : Addr) (f : Str) (te : TE) : TI := fun σ H R => te σ H fun x H1 => ∃ p dx fs t zs, x = .ref p ∧ H1 p = some (.ins C dx fs) ∧ fs.lookup f = some (.ref t) ∧ SqT K H1 t zs ∧ R (Itt K t) H1
theorem pi_iterO {tg l : Expr} {te : TE} {k : Nat} {f : Str} (c : ItM X.prog X.w X.K X.mg X.base C f k) (hr : Room k X.A) (he : PE X l te) : PI X tg l (tIterO X.K C f te) := by
  refine ⟨fun pins s σ H R I h => ?_⟩
  refine thn (he.run pins s σ H _ I h) fun v s1 ⟨x, H1, I1, r1, q1⟩ => ?_
  obtain ⟨p, dx, fs, t, zs, rfl, hp, hl, hz, hR⟩ := q1
  obtain ⟨fi, hfi, hf, go⟩ := c.ex
  obtain ⟨od, J⟩ := inst_of I1 hp
  obtain ⟨m, hF⟩ := I1.fr
  cases r1
  refine PySem.W.owit_iter hF I1.ok.mod.kin J hfi hf ?_
  refine wpAny_call (codeAny_mono (go X.A X.stack s1 H1 E0 p dx t fs zs hr I1.env0 hp hl hz) fun res s' back => ?_)
  match res, back with
  | .error e, back => exact back.elim
  | .ok .next, back => exact back.elim
  | .ok .brk, back => exact back.elim
  | .ok .cont, back => exact back.elim
  | .ok (.ret u), back =>
    obtain ⟨v, H2, I2, rv, it, rfl, n1, hy, rfl⟩ := I1.after back
    cases rv
    have e2 : upd H1 it (TiO t it) it = some (TiO t it) := upd_same
    have hit : s'.heap.IsTupleIter it t 0 := by
      have : ObjOk X.prog X.w (upd H1 it (TiO t it)) s'.heap it (.ext fun h => h.IsTupleIter it t 0) := I2.hok it _ e2
      exact this.1
    show wpAny _ _ (specialOf (.ref it) "__next__") _ _ _
    refine wpAny_specialOf (name := Str.ofString "__next__") hit.typeIs PySem.F.slot_tuple_iterator_next.lookup ?_
    have hn : X.s_0.heap.objs.size ≤ it := Nat.le_trans I1.sz hy
    have I3 := inv_drop I2 e2
    have fp := inv_fp I2 e2 hn
    rw [dropH_upd n1] at I3 fp
    refine ⟨it, [it], _, _, H1, rfl, I3, turn_tuple t it, hit, fun b hb => ?_, hR⟩
    rw [List.mem_singleton.mp hb]
    exact fp
end
end Ow
/-! Own classes: o + p of one class, k * o, -o; dict(t) of a tuple of pairs. -/
namespace Ow
open PySem PySem.Spec PyProof.Rows L2 Bx TL Dx Zx ItX
theorem bin_same {prog : Program} {w : World} {A : Around} {E : Value → Shared → Prop} {s : Shared} {K : PySem.W.Frag} {x y C f : Addr} {ox oy : Obj} {od oe : Option Obj} {op : Operator} {Q : Value → Shared → Prop}
    (X : K.In s.heap) (I : PySem.W.InstAt s.heap x ox C od) (J : PySem.W.InstAt s.heap y oy C oe) (first : PySem.W.selfFirst K C = true) (hs : PySem.W.findIn K (.ref C) (PySem.dunder op.info.2) = some (some (.ref f))) (hf : PySem.W.isFn K (.ref f) = true)
    (h : wpAny (model prog w) A (call (.ref f) [.ref x, .ref y]) (PySem.W.CmpBack Q) E s) : wpAny (model prog w) A (binaryOp op (.ref x) (.ref y)) Q E s := by
  obtain ⟨cd, rest, hcd, hm⟩ := PySem.W.ksp_first first
  cases hi : op.info with
  | mk sym nm =>
    rw [hi] at hs
    dsimp only at hs
    have called := PySem.W.ksp_try X I hs hf h
    have d1 : PySem.W.Looks (model prog w) s.heap (typeOf (.ref x)) (.ref C) := I.type
    have d2 : PySem.W.Looks (model prog w) s.heap (typeOf (.ref y)) (.ref C) := J.type
    have d3 : PySem.W.Looks (model prog w) s.heap (fillsNumberSlot (.ref C) nm) true := PySem.W.fills_K X hcd hm hs
    clear X I J hs hf h
    obtain ⟨hp, g, dd, tt, os⟩ := s
    have same : (Value.ref C == Value.ref C) = true := beq_self_eq_true _
    simp only [binaryOp, hi]
    refine wpAny_holding (wpAny_bind ?_)
    unfold binaryOp1
    refine wpAny_bind (d1.at (wpAny_bind ?_))
    refine d2.at (wpAny_bind (d3.at ?_))
    simp only [same, if_true]
    ksp_lk
    refine wpAny_mono called (fun r s' z => ?_) fun _ _ e => e
    obtain ⟨v, rfl, z⟩ := z
    ksp_lk
    exact z
section
variable {X : Cx} {C : Addr} {k : Nat} {ps : List Str} {sp : Sp} {op : Operator}
def rBinSame (C : Addr) (sp : Sp) : V → V → Hp → VK → Prop := fun x y H Q => ∃ p q dx dy fs gs, x = .ref p ∧ y = .ref q ∧ H p = some (.ins C dx fs) ∧ H q = some (.ins C dy gs) ∧ sp [.ref p, .ref q] H Q E0
theorem op_same (c : OwM X.prog X.w X.K X.mg X.base CX0 C (PySem.dunder op.info.2) k ps sp) (first : PySem.W.selfFirst X.K C = true) (hr : Room k X.A) : OpR X (binaryOp op) (rBinSame C sp) := by
  intro pins s σ H x y u v Q I rx ry h
  obtain ⟨p, q, dx, dy, fs, gs, rfl, rfl, hp, hq, hsp⟩ := h
  obtain ⟨f, fd, ok, hs, hf, _, hb⟩ := c.ex
  obtain ⟨od, J⟩ := inst_of I hp
  obtain ⟨oe, J2⟩ := inst_of I hq
  cases rx
  cases ry
  refine bin_same I.kIn J J2 first hs hf ?_
  refine wpAny_mono (call_at (sub_self hr) ok hb I (vs := [.ref p, .ref q]) (.cons rfl (.cons rfl .nil)) hsp (fun e s' z => z.elim)) (fun u s' z => back_ep z) fun _ _ z => z
/-- o op x -/
def rBinT (K : PySem.W.Frag) (C : Addr) (T : String) (sp : Sp) : V → V → Hp → VK → Prop := fun x y H Q => ∃ p dx fs, x = .ref p ∧ H p = some (.ins C dx fs) ∧ TyO K H y T ∧ sp [.ref p, y] H Q E0
theorem op_ownT {T : String} (c : OwM X.prog X.w X.K X.mg X.base CX0 C (PySem.dunder op.info.2) k ps sp) (B : BinF X.K C op T) (hr : Room k X.A) : OpR X (binaryOp op) (rBinT X.K C T sp) := by
  intro pins s σ H x y u v Q I rx ry h
  obtain ⟨p, dx, fs, rfl, hp, ht, hsp⟩ := h
  obtain ⟨f, fd, ok, hs, hf, _, hb⟩ := c.ex
  obtain ⟨od, J⟩ := inst_of I hp
  cases rx
  refine bin_looks I.kIn J B (lk_of I ry ht) hs hf ?_
  refine wpAny_mono (call_at (sub_self hr) ok hb I (vs := [.ref p, y]) (.cons rfl (.cons ry .nil)) hsp (fun e s' z => z.elim)) (fun u s' z => back_ep z) fun _ _ z => z
/-- -o -/
theorem un_negO (c : OwM X.prog X.w X.K X.mg X.base CX0 C "__neg__" k ps sp) (hr : Room k X.A) : UnR X (unaryOp .USub) (fun x H Q => ∃ p dx fs, x = .ref p ∧ H p = some (.ins C dx fs) ∧ sp [.ref p] H Q E0) := by
  intro pins s σ H x u Q I rx h
  obtain ⟨p, dx, fs, rfl, hp, hsp⟩ := h
  obtain ⟨f, fd, ok, hs, hf, _, hb⟩ := c.ex
  obtain ⟨od, J⟩ := inst_of I hp
  obtain ⟨m, hF⟩ := I.fr
  cases rx
  refine PySem.W.ksp_neg hF I.ok.mod.kin J hs hf ?_
  exact call_at (sub_self hr) ok hb I (vs := [.ref p]) (.cons rfl .nil) hsp (fun e s' z => z.elim)
/-- o[i] -/
theorem pe_subO0 {a b : Expr} {ta tb : TE} {pos : Pos} (c : OwM X.prog X.w X.K X.mg X.base CX0 C "__getitem__" k ps sp) (fi : ∀ f, PySem.W.findIn X.K (.ref C) "__getitem__" = some (some (.ref f)) → PySem.W.fnIn X.K f = true) (hr : Room (k + 1) X.A) (ha : PE X a ta) (hb : PE X b tb)
    (hs : ∀ v u, subscripted b true v u = runValue (.builtin "lifetime.subscript" ⟨[v, u], []⟩) := by intro _ _; rfl) : PE X (.Subscript a b pos) (tSubO C sp (fun _ _ _ _ => False) ta tb) :=
  pe_subO c fi hr (fun _ _ _ _ _ _ _ h => h.elim) ha hb hs
end
end Ow
/-! tuple(xs) without a dict of its own; dict(t) of such a tuple of pairs; k * o. -/
namespace Ow
open PySem PySem.Spec PyProof.Rows L2 Bx TL Dx Zx ItX
/-- a tuple without a dict of its own -/
def PlT (H : Hp) (a : Addr) (xs : List V) : Prop := ∃ o, H a = some (.frz o (.tup xs)) ∧ o.dict = none
theorem PlT.sq {K : PySem.W.Frag} {H : Hp} {a : Addr} {xs : List V} (h : PlT H a xs) : SqT K H a xs := .inl (.inr ⟨_, h.choose_spec.1⟩)
theorem PlT.same {H H' : Hp} {a : Addr} {xs : List V} (s : Same H H') (h : PlT H a xs) : PlT H' a xs := ⟨_, s _ _ h.choose_spec.1, h.choose_spec.2⟩
section
variable {X : Cx}
def rTupF (K : PySem.W.Frag) : List V → Hp → VK → Prop := fun xs H Q => ∃ p ys, xs = [.ref p] ∧ SqL K H p ys ∧ ∀ l o, H l = none → o.dict = none → Q (.ref l) (upd H l (.frz o (.tup ys)))
theorem call_tupleF : CallR X (.type "tuple") (rTupF X.K) := by
  intro pins s σ H xs us Q I r h
  obtain ⟨p, ys, rfl, hq, q⟩ := h
  obtain ⟨u, rfl, rx⟩ := vals1 r
  cases rx
  obtain ⟨its, r', pl, hz⟩ := I.list hq
  have hlen := r'.length
  refine call_tuple_list pl.isList (fun h' kp => ?_) (by simp only [List.size_toArray] <;> omega)
  have I1 : Inv X pins σ H { s with heap := h' } := I.kept (t' := s.toks) kp
  let o : Obj := { cls := .type "tuple", data := .seq its.toArray }
  have I2 : Inv X pins σ (upd H h'.objs.size (.frz o (.tup ys))) { s with heap := h'.push o } :=
    I1.laid (t' := s.toks) (fun b o e => Heap.get?_push_of_some _ e) (Nat.le_refl _) (show ObjOk X.prog X.w _ _ _ (.frz o (.tup ys)) from ⟨Heap.get?_push_size _ rfl, hz, its, r', IsTup.new _ _⟩)
  exact ⟨.ref h'.objs.size, _, I2, rfl, q _ o (I1.hok.fresh (Nat.le_refl _)) rfl⟩
def rDictT (K : PySem.W.Frag) : List V → Hp → VK → Prop := fun xs H Q => ∃ (a : Addr) (ps : List Addr) (kvs : List (Key × V)), xs = [.ref a] ∧ PlT H a (ps.map V.ref) ∧ Paired (fun p kv => SqT K H p [kV kv.1, kv.2]) ps kvs ∧
    ∀ p, H p = none → Q (.ref p) (upd H p (.dK (mergeK [] kvs)))
theorem call_dictT (hcalm : X.calm = true) : CallR X (.type "dict") (rDictT X.K) := by
  intro pins s σ H xs us Q I r q
  obtain ⟨a, ps, kvs, rfl, ⟨o, ha, hod⟩, hp, q⟩ := q
  obtain ⟨u, rfl, rx⟩ := vals1 r
  cases rx
  obtain ⟨hg, hz, its, rv, o2, ho2, hc, n, hdat⟩ : ObjOk X.prog X.w H s.heap a (.frz o (.tup (ps.map V.ref))) := I.hok a _ ha
  rw [hg] at ho2
  obtain rfl := Option.some.inj ho2
  have ei := refs_at rv
  subst ei
  obtain ⟨prs, rel, hl, hpr⟩ := pairs_of I hp
  rw [List.length_map] at hz
  have at_ : ∀ (j : Nat) (q : Key × Value), prs[j]? = some q → ∃ u : Value, IsTup s.heap (ps.getD j 0) #[u, q.2] ∧ ps[j]? = some (ps.getD j 0) ∧ keyIs q.1 u = true := fun j q e => by
    obtain ⟨b, u, e1, e2, e3⟩ := hpr j q e
    have e4 : ps.getD j 0 = b := by rw [List.getD_eq_getElem?_getD, e1]; rfl
    rw [e4]
    exact ⟨u, e2, e1, e3⟩
  classical
  let key : Nat → Value := fun j => match prs[j]? with
    | some q => (if h : ∃ u : Value, IsTup s.heap (ps.getD j 0) #[u, q.2] ∧ keyIs q.1 u = true then h.choose else .none)
    | none => .none
  have keyAt : ∀ (j : Nat) (q : Key × Value), prs[j]? = some q → IsTup s.heap (ps.getD j 0) #[key j, q.2] ∧ keyIs q.1 (key j) = true := fun j q e => by
    obtain ⟨u, h1, _, h3⟩ := at_ j q e
    have hh : ∃ u : Value, IsTup s.heap (ps.getD j 0) #[u, q.2] ∧ keyIs q.1 u = true := ⟨u, h1, h3⟩
    have ek : key j = hh.choose := by
      show (match prs[j]? with | some q => _ | none => _) = _
      rw [e]
      exact dif_pos hh
    rw [ek]
    exact hh.choose_spec
  let vps : List (Value × Value) := (List.range prs.length).map fun j => (key j, match prs[j]? with | some q => q.2 | none => .none)
  have vlen : vps.length = prs.length := by simp [vps]
  have vat : ∀ j k v, vps[j]? = some (k, v) → ∃ q : Key × Value, prs[j]? = some q ∧ k = key j ∧ v = q.2 := fun j k v e => by
    have hj : j < prs.length := by
      have := (List.getElem?_eq_some_iff.mp e).1
      omega
    have e1 : prs[j]? = some prs[j] := List.getElem?_eq_getElem hj
    refine ⟨prs[j], e1, ?_⟩
    have e2 : vps[j]? = some (key j, prs[j].2) := by
      simp only [vps, List.getElem?_map, List.getElem?_range hj, Option.map_some, e1]
    rw [e2] at e
    cases e
    exact ⟨rfl, rfl⟩
  have P := PySem.PairArg.tuple (prog := X.prog) (w := X.w) a (ps.map Value.ref).toArray (fun j => ps.getD j 0) vps
  refine PySem.call_dict_pairs (knd := mixKind X.prog X.w) (kvs := prs) P (I.ok.hd hcalm) ⟨⟨o, n, hg, hc, hod, hdat⟩, by rw [List.size_toArray, List.length_map, vlen, hl], fun j k v e => ?_⟩ ⟨vlen.symm, fun i k v e => ?_⟩ (by rw [vlen, hl]; exact hz) fun h' tk hd' kp => ?_
  · obtain ⟨q, e1, rfl, rfl⟩ := vat j k v e
    obtain ⟨u, _, e3, _⟩ := at_ j q e1
    refine ⟨?_, .inl (keyAt j q e1).1⟩
    rw [List.getElem?_toArray, List.getElem?_map, e3]
    rfl
  · obtain ⟨q, e1, rfl, rfl⟩ := vat i k v e
    exact ⟨q.1, e1, (keyAt i q e1).2⟩
  · have hm : (s.heap.objs.size == sysModules) = false := beq_eq_false_iff_ne.mpr (Nat.ne_of_gt I.big)
    have hlen : (mergeK [] kvs).length ≤ sizeLine := by
      refine Nat.le_trans (length_mergeK kvs []) ?_
      rw [List.length_nil, Nat.zero_add, rel.length, hl]
      exact hz
    exact ⟨.ref s.heap.objs.size, upd H s.heap.objs.size (.dK (mergeK [] kvs)), I.laid (t' := tk) (fun b o e => kp b o (fun h => nomatch h) e) (Nat.le_refl _) (show ObjOk X.prog X.w _ _ _ (.dK (mergeK [] kvs)) from ⟨hlen, hm, merged [] prs, KV.merge rel .nil, hd'⟩), rfl, q _ (I.hok.fresh (Nat.le_refl _))⟩
end
/-! ### k * o -/
theorem int_mul_ins (a : Int) (t : Tok) (l C dx : Addr) :
    Meets (Builtin.«int.__mul__» ⟨[.int a t, .ref l], []⟩) (fun _ R s => s.heap.get? l = some (PySem.W.instObj C dx) ∧ R (.ok (.ret Value.notImplemented)) s) :=
  .of_wp fun prog w A R s h => by obtain ⟨hp, g, d, tk, os⟩ := s; obtain ⟨hl, h⟩ := h; wp_walk; exact ⟨_, rfl, h⟩
theorem int_declines {prog : Program} {w : World} {A : Around} {E : Value → Shared → Prop} {s : Shared} {k : Int} {t : Tok} {x C dx : Addr} {Q : Value → Shared → Prop} (hg : s.heap.get? x = some (PySem.W.instObj C dx)) (q : Q .notImplemented s) :
    wpAny (model prog w) A (call (.builtin "int.__mul__") [.int k t, .ref x]) Q E s :=
  call_meets F.slot_int_mul (typeIs_int s k t) F.entry_int_mul (F.args_int_mul_2 _ _) (int_mul_ins k t x C dx) ⟨hg, q⟩
theorem try_declines {prog : Program} {w : World} {A : Around} {E : Value → Shared → Prop} {s : Shared} {k : Int} {t : Tok} {x C dx : Addr} {Q : Option Value → Shared → Prop} (hg : s.heap.get? x = some (PySem.W.instObj C dx)) (q : Q none s) :
    wpAny (model prog w) A (tryMethod (.int k t) (dunder "mul") (.ref x)) Q E s := by
  refine wpAny_tryMethod_declines (T := "int") (name := dunder "mul") (id := "int.__mul__") ?_ ?_ ?_
  · exact typeIs_int s k t
  · exact F.slot_int_mul
  exact int_declines hg ⟨rfl, q⟩
theorem bin_right {prog : Program} {w : World} {A : Around} {E : Value → Shared → Prop} {s : Shared} {K : PySem.W.Frag} {x C f dx : Addr} {od : Option Obj} {k : Int} {t : Tok} {Q : Value → Shared → Prop}
    (X : K.In s.heap) (I : PySem.W.InstAt s.heap x (PySem.W.instObj C dx) C od) (first : PySem.W.selfFirst K C = true) (hl : PySem.W.findIn K (.ref C) "__mul__" = some (some (.ref f))) (hs : ∃ g : Addr, PySem.W.findIn K (.ref C) "__rmul__" = some (some (.ref g)) ∧ PySem.W.isFn K (.ref g) = true ∧
      wpAny (model prog w) A (call (.ref g) [.ref x, .int k t]) (PySem.W.CmpBack Q) E s)
    (hsub : PySem.W.subIn K (.ref C) (.type "int") = some false) : wpAny (model prog w) A (binaryOp .Mult (.int k t) (.ref x)) Q E s := by
  obtain ⟨g, hr, hf, h⟩ := hs
  obtain ⟨cd, rest, hcd, hm⟩ := PySem.W.ksp_first first
  have hg : s.heap.get? x = some (PySem.W.instObj C dx) := by
    exact I.at_
  have called := PySem.W.ksp_try X I hr hf h
  have d1 : PySem.W.Looks (model prog w) s.heap (typeOf (.ref x)) (.ref C) := I.type
  have d3 : PySem.W.Looks (model prog w) s.heap (fillsNumberSlot (.ref C) "mul") true := PySem.W.fills_K X hcd hm hl
  have d5 : PySem.W.Looks (model prog w) s.heap (isSubtype (.ref C) (.type "int")) false := PySem.W.looks_subIn X hsub
  clear X I hl hr hf h
  simp only [binaryOp]
  refine wpAny_holding (wpAny_bind ?_)
  show wpAny _ _ (binaryOp1 "mul" _ _) _ _ _
  simp only [binaryOp1]
  refine wpAny_bind (wpAny_typeOf (typeIs_int s k t) (wpAny_bind (d1.at (wpAny_bind (wpAny_of_eq F.fills_int_mul ?_)))))
  have hne : (Value.type "int" == Value.ref C) = false := Bool.eq_false_iff.mpr fun q => by cases beq_iff_eq.mp q
  simp only [hne, Bool.false_eq_true, if_false]
  refine wpAny_bind (d3.at ?_)
  simp only [Bool.and_self, if_true]
  refine wpAny_bind (d5.at ?_)
  have hpy : numberSlotInPython (.type "int") "mul" = pure false := rfl
  simp only [Bool.false_eq_true, if_false, pure_bind, Bool.not_false, Bool.and_self, if_true, hpy]
  refine wpAny_bind (try_declines hg ?_)
  refine wpAny_bind (wpAny_mono called (fun r s' z => ?_) fun _ _ e => e)
  obtain ⟨v, rfl, z⟩ := z
  exact wpAny_bind (wpAny_rule (wpAny_pure (wpAny_pure z)))
section
variable {X : Cx} {C : Addr} {k : Nat} {ps : List Str} {sp : Sp}
/-- k * o -/
def rMulR (C : Addr) (sp : Sp) : V → V → Hp → VK → Prop := fun x y H Q => ∃ p dx fs n, x = .int n ∧ y = .ref p ∧ H p = some (.ins C dx fs) ∧ sp [.ref p, .int n] H Q E0
theorem op_mulR (c : OwM X.prog X.w X.K X.mg X.base CX0 C "__rmul__" k ps sp) (first : PySem.W.selfFirst X.K C = true) (hl : ∃ f : Addr, PySem.W.findIn X.K (.ref C) "__mul__" = some (some (.ref f))) (hsub : PySem.W.subIn X.K (.ref C) (.type "int") = some false) (hr : Room k X.A) : OpR X (binaryOp .Mult) (rMulR C sp) := by
  intro pins s σ H x y u v Q I rx ry h
  obtain ⟨p, dx, fs, n, rfl, rfl, hp, hsp⟩ := h
  obtain ⟨f, fd, ok, hs, hf, _, hb⟩ := c.ex
  obtain ⟨fl, hfl⟩ := hl
  obtain ⟨od, J⟩ := inst_of I hp
  obtain ⟨t, rfl⟩ := id rx
  cases ry
  refine bin_right I.kIn J first hfl ⟨f, hs, hf, ?_⟩ hsub
  refine wpAny_mono (call_at (sub_self hr) ok hb I (vs := [.ref p, .int n]) (.cons rfl (.cons rx .nil)) hsp (fun e s' z => z.elim)) (fun u s' z => back_ep z) fun _ _ z => z
end
end Ow
namespace Ow
open PySem PySem.Spec PyProof.Rows L2 Bx TL Dx Zx ItX
/-! ### calls with defaults, new instances, methods, by their promises -/
structure CalD (P : Program) (w : World) (K : PySem.W.Frag) (mg : Str → Option Value) (base : Heap) (x : Str) (k : Nat) (ps : List Str) (sp : Sp) (dvs : List V) : Prop where
  ex : ∃ (f : Addr) (fd : FuncData) (ds : List Value), FnOk P w K mg base CX0 k f fd ps sp ∧ mg x = some (.ref f) ∧ PySem.W.keepIn K (.ref f) = true ∧ Binds K fd ps ds ∧ Vals dvs ds
structure MakC (P : Program) (w : World) (K : PySem.W.Frag) (mg : Str → Option Value) (base : Heap) (x : Str) (C : Addr) (k : Nat) (ps : List Str) (sp : Sp) (dvs : List V) : Prop where
  ex : ∃ (f : Addr) (fd : FuncData) (ds : List Value), Mk K C f ∧ FnOk P w K mg base CX0 k f fd ps sp ∧ mg x = some (.ref C) ∧ Binds K fd ps ds ∧ Vals dvs ds
structure MthC (P : Program) (w : World) (K : PySem.W.Frag) (mg : Str → Option Value) (base : Heap) (C : Addr) (m : Str) (k : Nat) (ps : List Str) (sp : Sp) : Prop where
  ex : ∃ (f : Addr) (fd : FuncData), Cls K C ∧ Meth K C m f ∧ FnOk P w K mg base CX0 k f fd ps sp ∧ Binds K fd ps []
section
variable {X : Cx} {x : Str} {k : Nat} {ps : List Str} {sp : Sp} {e : Expr} {es : List Expr} {t : TA} {p pos : Pos} {dvs : List V} {C : Addr}
theorem pe_calD (c : CalD X.prog X.w X.K X.mg X.base x k ps sp dvs) (hr : Room k X.A) (ha : PA X (e :: es) t) (hg : Gl X x := by rfl) (hdb : (x == ("__debug__" : Str)) = false := by decide)
    (he : starEach (e :: es) X.env = (false, eval e X.env) :: starEach es X.env := by rfl) (hpl : (backTo pos (starEach es X.env)).any (·.1) = false := by rfl) : PE X (.Call (.Name x p) (e :: es) [] pos) (tCall sp dvs E0 t) := by
  obtain ⟨f, fd, ds, ok, g, kp, b, r⟩ := c.ex
  exact pe_call (E := E0) ok hr hg g kp b r pass0 ha hdb he hpl (p := p)
theorem pe_mak (c : MakC X.prog X.w X.K X.mg X.base x C k ps sp []) (hr : Room (k + 1) X.A) (ha : PA X (e :: es) t) (hg : Gl X x := by rfl) (hdb : (x == ("__debug__" : Str)) = false := by decide)
    (he : starEach (e :: es) X.env = (false, eval e X.env) :: starEach es X.env := by rfl) (hpl : (backTo pos (starEach es X.env)).any (·.1) = false := by rfl) : PE X (.Call (.Name x p) (e :: es) [] pos) (tMake C sp [] E0 t) := by
  obtain ⟨f, fd, ds, M, ok, g, b, r⟩ := c.ex
  exact pe_make (E := E0) M ok hr hg g b r pass0 ha hdb he hpl (p := p)
theorem pe_mak0 (c : MakC X.prog X.w X.K X.mg X.base x C k ps sp dvs) (hr : Room (k + 1) X.A) (hg : Gl X x := by rfl) (hdb : (x == ("__debug__" : Str)) = false := by decide) : PE X (.Call (.Name x p) [] [] pos) (tMake C sp dvs E0 tNil) := by
  obtain ⟨f, fd, ds, M, ok, g, b, r⟩ := c.ex
  exact pe_make0 (E := E0) M ok hr hg g b r pass0 hdb (p := p)
theorem pe_mth {m : Str} {o : Expr} {to : TE} {apos : Pos} {pl : Sem Bool} (c : MthC X.prog X.w X.K X.mg X.base C m k ps sp) (hr : Room k X.A) (ho : PE X o to) (ha : PA X (e :: es) t)
    (hst : starEach (e :: es) X.env = (false, eval e X.env) :: starEach es X.env := by rfl) (hpl : (backTo pos (starEach es X.env)).any (·.1) = false := by rfl)
    (ht : eval (.Call (.Attribute o m apos) (e :: es) [] pos) X.env = (do
      let ov ← eval o X.env
      standAt apos.atName
      let (f, first) ← holding [ov] (getMethod ov m pl)
      callWith pos f first (backTo pos (starEach (e :: es) X.env)) (backToKw pos (keywordEach [] X.env))) := by rfl) : PE X (.Call (.Attribute o m apos) (e :: es) [] pos) (tMeth C m sp [] E0 to t) := by
  obtain ⟨f, fd, cl, mt, ok, b⟩ := c.ex
  exact pe_meth (E := E0) ho cl mt ok hr b .nil pass0 ha hst hpl ht
end
/-! ### // by any divisor -/
def CDivZ (_ j : Int) : Prop := j ≠ 0 ∧ j.natAbs.log2 < 9000
theorem op_fdivZ {X : Cx} : OpR X (binaryOp .FloorDiv) (rI CDivZ fun i j => .int (i.fdiv j)) := opI fun i j _ _ _ _ _ hc q => floordiv_int hc.1 q (.inl (PyProof.noPylong_of_log2 hc.2))
theorem wide_divZ {i j : Int} {b : Nat} (h : j ≠ 0) (hb : j.natAbs < 2 ^ b) (h0 : 0 < b) (h9 : b ≤ 9000) : CDivZ i j := ⟨h, Nat.lt_of_lt_of_le (PySem.Flt.log2_lt_of h0 hb) h9⟩
end Ow
/-! dicts whose keys are tuples: made by a comprehension. -/
namespace Dt
open PySem PySem.Spec PyProof.Rows L2 Bx TL Dx Zx
/-- the store of such a comprehension -/
theorem put_in {X : Cx} {pins : List (Addr × Obj)} {σ : L2.St} {H : Hp} {s : Shared} {E : Value → Shared → Prop} {D b : Addr} {kvs : List (List Key × V)} {k : List Key} {v : V} {r : Value} {Q : Unit → Shared → Prop} (hu : X.A.units < cLine) (J : Inv X pins σ H s) (hD : H D = some (.dT kvs)) (hl : kvs.length < sizeLine)
    (hb : H b = some (.tup (k.map kV))) (rv : RelV v r) (q : ∀ s', Inv X pins σ (upd H D (.dT (putK kvs k v))) s' → Q () s') : wpAny (model X.prog X.w) X.A (dictSet D (.ref b) r) Q E s := by
  obtain ⟨_, ns, xs, rel, dd⟩ := dt_of J.hok hD
  have small : xs.length ≤ sizeLine := by
    have := Paired.length rel
    omega
  have after : (putK kvs k v).length ≤ sizeLine := by
    have := length_putK kvs k v
    omega
  refine wpAny_dictSet_heap (hsz := small) hu (key_of J.hok hb) dd fun g dg sb => q _ ?_
  obtain ⟨ob, es, ep, ho, x2, x3, x4, _, x5⟩ := dg
  refine d_write J (by rw [hD]; exact True.intro) sb ⟨ob, ho⟩ ⟨after, ns, _, (rel.put k hb rv).keeps fun c ys e => ?_, ob, es, ep, ho, x2, x3, x4, x5⟩
  rw [upd_ne (ne_of e hD fun z => nomatch z)]
  exact e
end Dt
namespace Dt
open PySem PySem.Spec PyProof.Rows L2 Bx TL Dx Zx
section
variable {X : Cx}
/-- {k: v for target in iter if ..}, the keys tuples of ints and texts -/
def tDcT (wi : TI) (g : TG) (tt : TT) (tk tv : TE) (vs : List Nat) : TE := fun σ H Q => wi σ H fun J H1 => ∀ D, H1 D = none → ∃ W : Nat → Nat → Hp → Prop, (∃ m, W 0 m (upd H1 D (.dT []))) ∧ ∀ i m H, W i m H →
  (J.stop i H ∧ Q (.ref D) H) ∨ (J.go i H ∧ ∃ Nx : Hp → Prop, (∀ H', Nx H' → ∃ m', m' < m ∧ W (i + 1) m' H') ∧ ∀ x H', J.yld i H x H' → g x (wipe σ vs) H' fun σ2 H2 => wipe σ2 vs = wipe σ vs ∧ tt σ2 H2 fun b H3 =>
    if b = true then tk σ2 H3 fun y H4 => tv σ2 H4 fun z H5 => ∃ a kvs k, y = .ref a ∧ H5 a = some (.tup (k.map kV)) ∧ H5 D = some (.dT kvs) ∧ kvs.length < sizeLine ∧ Nx (upd H5 D (.dT (putK kvs k z))) else Nx H3)
end
end Dt
namespace Dt
open PySem PySem.Spec PyProof.Rows L2 Bx TL Dx Zx
section
variable {X : Cx}
/-- what holds between the turns: the block's slots are bare, the iterator stands at i, the measure is n -/
def Between (Y : Cx) (fp : List Addr) (tn : Nat → Heap → Prop) (W : Nat → Nat → Hp → Prop) (τ : L2.St) (n : Nat) (z : Shared) : Prop := ∃ i G, Inv Y [] τ G z ∧ tn i z.heap ∧ (∀ b ∈ fp, G b = none) ∧ W i n G
theorem dct_core {pins : List (Addr × Obj)} {s : Shared} {σ : L2.St} {H : Hp} {Q : VK} {kx vx tg iter : Expr} {ifs : List Expr} {scope : Scope} {own : List (Str × Nat)} {pos pos' : Pos} {wi : TI} {g : TG} {tt : TT} {tk tv : TE} {use : Option (Value → Sem Unit)} {Qf : Value → Shared → Prop}
    (hu : X.A.units < cLine) (calm : X.calm = true) (nod : X.N.Nodup) (J : Inv X pins σ H s) (walk : PI X tg iter wi) (ok : BlkOk X.N X.env.scope scope own)
    (pg : ∀ (z : Shared) (G : Hp) (C : Addr) (cl : List (Str × Addr)) (fp : List Addr), PG (X.blk z G scope (compEnvC scope cl C X.env) fp) tg g) (pt : ∀ (z : Shared) (G : Hp) (C : Addr) (cl : List (Str × Addr)) (fp : List Addr), PTs (X.blk z G scope (compEnvC scope cl C X.env) fp) ifs tt)
    (pk : ∀ (z : Shared) (G : Hp) (C : Addr) (cl : List (Str × Addr)) (fp : List Addr), PE (X.blk z G scope (compEnvC scope cl C X.env) fp) kx tk) (pv : ∀ (z : Shared) (G : Hp) (C : Addr) (cl : List (Str × Addr)) (fp : List Addr), PE (X.blk z G scope (compEnvC scope cl C X.env) fp) vx tv)
    (fold : ∀ x, foldedSetIterable iter X.env x = pure x) (want : tDcT wi g tt tk tv (own.map (·.2)) σ H Q)
    (back : ∀ D C z m G, Inv X pins σ G z → Q (.ref D) G → z.heap.Ns C m → FpOk X pins G C → compPost (model X.prog X.w) X.A X.xe use Qf (.ref D) C (.ok .next) z) :
    wpAny (model X.prog X.w) X.A (comprehension (.DictComp kx vx [⟨tg, iter, ifs, 0⟩] scope pos) scope X.env pos' newDict false (eval iter X.env) use) Qf X.xe s := by
  have free : ∀ y ∈ scope.names, y.2 = .free → ∃ c, X.env.cells.lookup y.1 = some c := fun y m e => (ok.free y m e).elim (fun k => J.ok.has _ (.inl k)) fun k => J.ok.has _ (.inr k)
  have names : ∀ y ∈ scope.names, y.2 = .local → scope.names.lookup y.1 = some .local := fun y m e => by
    have := ok.uniq y m
    rw [e] at this
    exact this
  refine wpAny_comprehension_free (use := use) rfl fold (closure_ok free) ok.kind names (thn (walk.run pins s σ H _ J want) fun first z1 got => thn got fun itv z2 ready => ?_)
  obtain ⟨it, fp, tn, I0, G2, rfl, J2, T, at0, out2, q⟩ := ready
  refine wpAny_newObj_type (newEnv_comp ?_)
  have bare : G2 z2.heap.objs.size = none := J2.hok.fresh (Nat.le_refl _)
  obtain ⟨W, ⟨n0, start⟩, turn⟩ := q _ bare
  have lo : ∀ b ∈ fp, b < z2.heap.objs.size := fun b m => by
    obtain ⟨u, hu2, _⟩ := T.obj _ _ at0 b m
    exact Heap.lt_size hu2
  have J3 : Inv X pins σ (upd G2 z2.heap.objs.size (.dT [])) { z2 with heap := z2.heap.push { cls := .type "dict", data := .dict #[] } } :=
    J2.laid (t' := z2.toks) (fun b o e => Heap.get?_push_of_some _ e) (Nat.le_refl _) (dt_empty z2.heap J2.big)
  have out3 : ∀ b ∈ fp, FpOk X pins (upd G2 z2.heap.objs.size (.dT [])) b ∧ b < (z2.heap.push { cls := .type "dict", data := .dict #[] }).objs.size := fun b m => by
    have l := lo b m
    refine ⟨⟨?_, (out2 b m).2⟩, ?_⟩
    · rw [upd_ne (Nat.ne_of_lt l)]
      exact (out2 b m).1
    · rw [Heap.size_push]
      exact Nat.lt_succ_of_lt l
  have at3 : tn 0 (z2.heap.push { cls := .type "dict", data := .dict #[] }) := T.keep _ _ _ at0 fun b _ o e => Heap.get?_push_of_some _ e
  generalize hD : z2.heap.objs.size = D at *
  generalize hz3 : ({ z2 with heap := z2.heap.push { cls := .type "dict", data := .dict #[] } } : Shared) = z3 at *
  have e3 : z3.heap = z2.heap.push { cls := .type "dict", data := .dict #[] } := by rw [← hz3]
  rw [← e3] at out3 at3
  have J4 := block_start J3 ok nod out3
  have bare3 : ∀ b ∈ fp, (upd G2 D (.dT [])) b = none := fun b m => (out3 b m).1.1
  generalize upd G2 D (.dT []) = G3 at J3 J4 bare3 out3 start
  generalize hcl : cellsFrom (z3.heap.objs.size + 1) scope.names (cloFrom X.env.cells scope.names []) = cl at J4 ⊢
  generalize hC : z3.heap.objs.size = C at *
  have g1 := pg z3 G3 C cl fp
  have g2 := pt z3 G3 C cl fp
  have g3 := pk z3 G3 C cl fp
  have g4 := pv z3 G3 C cl fp
  show codeAny _ _ (.compStart (.DictComp kx vx [⟨tg, iter, ifs, 0⟩] scope pos) 0 (.ref it) (.ref D) (compEnvC scope cl C X.env)) (compPost (model X.prog X.w) X.A X.xe use Qf (.ref D) C) { z3 with heap := pushCells (z3.heap.push { cls := .type "dict", data := .dict #[] }) scope.names }
  have at4 : tn 0 (pushCells (z3.heap.push { cls := .type "dict", data := .dict #[] }) scope.names) := T.keep _ _ _ at3 fun b _ o e => pushCells_keeps _ _ _ _ (Heap.get?_push_of_some _ e)
  generalize hz4 : ({ z3 with heap := pushCells (z3.heap.push { cls := .type "dict", data := .dict #[] }) scope.names } : Shared) = z4 at J4 ⊢
  have at4' : tn 0 z4.heap := by
    rw [← hz4]
    exact at4
  have cloc : (compEnvC scope cl C X.env).locals = C := rfl
  generalize compEnvC scope cl C X.env = ce at J4 g1 g2 g3 g4 cloc ⊢
  have stays : ∀ {τ : L2.St} {G : Hp} {z : Shared}, Inv (X.blk z3 G3 scope ce fp) [] τ G z → (∀ b ∈ fp, G b = none) → ∀ b ∈ fp, FpOk (X.blk z3 G3 scope ce fp) [] G b := fun J' hn b m =>
    ⟨hn b m, (J'.ok.exf b m).1, J'.ok.exfs b m, .inl m, fun x c e => (J'.ok.exf b m).2 x c e, fun p hp => absurd (show p ∈ ([] : List (Addr × Obj)) ++ [] from hp) (by simp)⟩
  have loop : codeAny (model X.prog X.w) X.A (.compLoop (.DictComp kx vx [⟨tg, iter, ifs, 0⟩] scope pos) 0 (.ref it) (.ref D) ce) (compPost (model X.prog X.w) X.A X.xe use Qf (.ref D) C) z4 := by
    refine compLoop_anyD (fun n z => Between (X.blk z3 G3 scope ce fp) fp tn W (wipe σ (own.map (·.2))) n z) (fun n z5 h5 => ?_) n0 ⟨0, G3, J4, at4', bare3, start⟩
    obtain ⟨i, G5, J5, at5, bare5, w5⟩ := h5
    rcases turn i n G5 w5 with ⟨stop, fin⟩ | ⟨go, Nx, less, step⟩
    · have over := T.done (X.blk z3 G3 scope ce fp) rfl rfl rfl calm i [] z5 _ G5 (fun _ _ => False) J5 (stays J5 bare5) at5 stop
      refine thnF over fun r z6 ⟨none_, J6⟩ => ?_
      subst none_
      have home : Inv X pins σ G5 z6 := J3.call' (ch := fp) J6.os J6.base J6.hok J6.bare fun b m => ⟨(out3 b m).1.2.2.2.1, (out3 b m).1.2.1, (out3 b m).1.2.2.2.2.1, (out3 b m).1.2.2.2.2.2⟩
      have noC : G5 C = none := by
        have f : G5 ce.locals = none := J6.free
        rwa [cloc] at f
      obtain ⟨m, ns, _⟩ := J6.loc
      have ns2 : z6.heap.Ns ce.locals m := ns
      rw [cloc] at ns2
      exact back D C z6 m G5 home fin ns2 (J3.fpOk (Nat.le_of_eq hC) noC)
    · have one := T.item (X.blk z3 G3 scope ce fp) rfl rfl rfl calm i [] z5 _ G5 (fun _ _ => False) J5 (stays J5 bare5) at5 go
      refine thnF one fun r z6 ⟨u, some_, h6⟩ => ?_
      subst some_
      refine thnF h6 fun _ z7 ⟨x, G7, J7, rx, y7, at7, bare7⟩ => ?_
      have J7p := J7.pinned (stays J7 bare7) (T.obj _ _ at7)
      refine thnF (g1.run _ z7 _ G7 x u _ J7p rx (step x G7 y7)) fun _ z8 ⟨σ8, G8, J8, clean, q8⟩ => ?_
      refine thnF (g2.run _ z8 σ8 G8 _ J8 q8) fun b z9 ⟨G9, J9, q9⟩ => ?_
      have next : ∀ {z : Shared} {G : Hp}, Inv (X.blk z3 G3 scope ce fp) ([] ++ pinsAt fp z7.heap) σ8 G z → Nx G → ∃ m, m < n ∧ Between (X.blk z3 G3 scope ce fp) fp tn W (wipe σ (own.map (·.2))) m z := fun {z G} J' nx => by
        obtain ⟨m, lt, w'⟩ := less G nx
        have held : ∀ b ∈ fp, ∀ o, z7.heap.get? b = some o → z.heap.get? b = some o ∧ G b = none := fun b m o e =>
          have k := J'.pin (b, o) (List.mem_append_right _ (List.mem_append_right _ (mem_pinsAt m e)))
          ⟨k.1, k.2.1⟩
        have long : (wipe σ (own.map (·.2))).length = σ8.length := by rw [← clean, wipe_length]
        refine ⟨m, lt, i + 1, G, (J'.unpinned (pins := [])).weak long (fun j v e => ?_), T.keep _ _ _ at7 fun b m o e => (held b m o e).1, fun b m => ?_, w'⟩
        · rw [← clean] at e
          exact (wipe_some e).1
        · obtain ⟨o, e, _⟩ := T.obj _ _ at7 b m
          exact (held b m o e).2
      cases b with
      | false =>
        simp only [Bool.false_eq_true, if_false] at q9 ⊢
        exact next J9 q9
      | true =>
        simp only [if_true] at q9 ⊢
        refine thnF (g3.run _ z9 σ8 G9 _ J9 q9) fun kv z10 ⟨y, G10, J10, ry, q10⟩ => ?_
        refine thnF (g4.run _ z10 σ8 G10 _ J10 q10) fun vv z11 ⟨v, G11, J11, rv, a, kvs, k, ey, ha, hd, small, nx⟩ => ?_
        subst ey
        cases ry
        exact put_in (X := X.blk z3 G3 scope ce fp) hu J11 hd small ha rv fun z12 J12 => next J12 nx
  exact codeAny_compStart_dict loop (T.self X.A 0 _ _ _ at4' loop)
end
end Dt
namespace Dt
open PySem PySem.Spec PyProof.Rows L2 Bx TL Dx Zx
section
variable {X : Cx}
/-- name = {k: v for ..}, the keys tuples -/
theorem ps_setDcT {i : Nat} {y : Str} {py : Pos} {kx vx tg iter : Expr} {ifs : List Expr} {scope : Scope} {own : List (Str × Nat)} {pos spos : Pos} {wi : TI} {g : TG} {tt : TT} {tk tv : TE} (hu : X.A.units < cLine) (hc : X.calm = true) (hN : X.N.Nodup) (hy : X.N[i]? = some y) (hyl : X.env.scope.names.lookup y = some .local)
    (hsw : swapsWith (.DictComp kx vx [⟨tg, iter, ifs, 0⟩] scope pos) (some (.Name y py)) spos.line X.env = pure true) (hi : PI X tg iter wi) (ok : BlkOk X.N X.env.scope scope own)
    (hg : ∀ (s : Shared) (H : Hp) (C : Addr) (cl : List (Str × Addr)) (fp : List Addr), PG (X.blk s H scope (compEnvC scope cl C X.env) fp) tg g) (ht : ∀ (s : Shared) (H : Hp) (C : Addr) (cl : List (Str × Addr)) (fp : List Addr), PTs (X.blk s H scope (compEnvC scope cl C X.env) fp) ifs tt)
    (hk : ∀ (s : Shared) (H : Hp) (C : Addr) (cl : List (Str × Addr)) (fp : List Addr), PE (X.blk s H scope (compEnvC scope cl C X.env) fp) kx tk)
    (he : ∀ (s : Shared) (H : Hp) (C : Addr) (cl : List (Str × Addr)) (fp : List Addr), PE (X.blk s H scope (compEnvC scope cl C X.env) fp) vx tv) (hs : ∀ x, foldedSetIterable iter X.env x = pure x := by intro _; rfl) :
    PS X (.Assign [.Name y py] (.DictComp kx vx [⟨tg, iter, ifs, 0⟩] scope pos) spos) (tAsg (tDcT wi g tt tk tv (own.map (·.2))) (gName i)) := by
  refine ⟨fun pins s σ H D I h => ?_⟩
  rw [exec_Assign_Name_used _ _ _ _ hsw]
  refine wpAny_bind (wpAny_standAt (wpAny_bind ?_))
  show wpAny _ X.A (do let _ ← comprehension (.DictComp kx vx [⟨tg, iter, ifs, 0⟩] scope pos) scope X.env _ newDict false (eval iter X.env) (some (assign (.Name y py) X.env))) _ _ s
  have h : tDcT wi g tt tk tv (own.map (·.2)) σ H (fun x H1 => gName i x σ H1 D.nx) := h
  refine wpAny_bind (thn (dct_core (Qf := fun _ s' => SP X pins D .next s') hu hc hN I hi ok hg ht hk he hs h fun L C s' m H' I' q hn f => ?_) fun _ s' hq => wpAny_pure (wpAny_pure hq))
  show wpAny _ _ (assign (.Name y py) X.env (.ref L)) _ _ _
  refine wpAny_assign_Name (store_ok2 (v := V.ref L) I' hN hy (.inl hyl) rfl (fun s2 I2 ⟨a, sb, ha⟩ => ?_) (.inr hyl))
  obtain ⟨f0, f1, f2, f3, f4, f5⟩ := f
  have haC : C ≠ a := by
    rcases ha with z | z
    · rw [z]; exact f1
    · exact fun e => f4 y a z e.symm
  refine ⟨m, hn.sameBut sb haC, fun h3 sb3 => ?_⟩
  exact ⟨_, H', I2.turned (t' := s2.toks) (fun b o hb e => (sb3.2 b hb).trans e) f0 f1 f3 f4 f5, q⟩
end
/-- over a walk -/
theorem dct_it {J : It} {n : Nat} {G : Hp → Prop} {Y : Nat → Hp → V → Hp → Prop} (w : Walk J n G Y) {g : TG} {tt : TT} {tk tv : TE} {vs : List Nat} {σ : L2.St} {H1 : Hp} {D : Addr} {Qd : Hp → Prop} (Pv : Nat → Hp → Prop) (h0 : Pv 0 (upd H1 D (.dT []))) (hG : ∀ i H, i ≤ n → Pv i H → G H)
    (hs : ∀ i x H H', i < n → Pv i H → Y i H x H' → g x (wipe σ vs) H' fun σ2 H2 => wipe σ2 vs = wipe σ vs ∧ tt σ2 H2 fun b H3 =>
      if b = true then tk σ2 H3 fun y H4 => tv σ2 H4 fun z H5 => ∃ a kvs k, y = .ref a ∧ H5 a = some (.tup (k.map kV)) ∧ H5 D = some (.dT kvs) ∧ kvs.length < sizeLine ∧ Pv (i + 1) (upd H5 D (.dT (putK kvs k z))) else Pv (i + 1) H3) (hd : ∀ H, Pv n H → Qd H) :
    ∃ W : Nat → Nat → Hp → Prop, (∃ m, W 0 m (upd H1 D (.dT []))) ∧ ∀ i m H, W i m H →
      (J.stop i H ∧ Qd H) ∨ (J.go i H ∧ ∃ Nx : Hp → Prop, (∀ H', Nx H' → ∃ m', m' < m ∧ W (i + 1) m' H') ∧ ∀ x H', J.yld i H x H' → g x (wipe σ vs) H' fun σ2 H2 => wipe σ2 vs = wipe σ vs ∧ tt σ2 H2 fun b H3 =>
        if b = true then tk σ2 H3 fun y H4 => tv σ2 H4 fun z H5 => ∃ a kvs k, y = .ref a ∧ H5 a = some (.tup (k.map kV)) ∧ H5 D = some (.dT kvs) ∧ kvs.length < sizeLine ∧ Nx (upd H5 D (.dT (putK kvs k z))) else Nx H3) :=
  walk_any (B := fun (Nx : Hp → Prop) x H' => g x (wipe σ vs) H' fun σ2 H2 => wipe σ2 vs = wipe σ vs ∧ tt σ2 H2 fun b H3 =>
        if b = true then tk σ2 H3 fun y H4 => tv σ2 H4 fun z H5 => ∃ a kvs k, y = .ref a ∧ H5 a = some (.tup (k.map kV)) ∧ H5 D = some (.dT kvs) ∧ kvs.length < sizeLine ∧ Nx (upd H5 D (.dT (putK kvs k z))) else Nx H3) w Pv h0 hG hs hd
end Dt
namespace Dt
open PySem PySem.Spec PyProof.Rows L2
/-- e.f within a block: the written part is named -/
theorem pe_fldK {X : Cx} {K : PySem.W.Frag} {e : Expr} {f : Str} {pos : Pos} {ta : TE} (h : X.K = K) (he : PE X e ta) (hb : attributeBase e f X.env (eval e X.env) = eval e X.env) : PE X (.Attribute e f pos) (tFld K ta f) := by
  subst h
  exact pe_fld he hb
end Dt
/-! least sums of chains: the algorithm, as the program and the law have it. -/
namespace M16
open PySem PySem.Spec PyProof.Rows L2
abbrev P2 := Str × Str
abbrev Tab := List (P2 × Int)
def look (m : Tab) (k : P2) : Option Int := (m.find? fun x => decide (x.1 = k)).map (·.2)
def put (m : Tab) (k : P2) (v : Int) : Tab := if (m.any fun x => decide (x.1 = k)) = true then m.map (fun x => if x.1 = k then (x.1, v) else x) else m ++ [(k, v)]
def relax (m : Tab) (k : P2) (c : Int) : Tab := match look m k with
  | none => put m k c
  | some v => if c < v then put m k c else m
def Nd (m : Tab) : Prop := (m.map (·.1)).Nodup
theorem look_any (m : Tab) (k : P2) : (m.any fun x => decide (x.1 = k)) = (look m k).isSome := by
  unfold look
  induction m with
  | nil => rfl
  | cons x m ih =>
    rw [List.any_cons, List.find?_cons]
    by_cases h : x.1 = k
    · simp [h]
    · simp only [h, decide_false, Bool.false_or]
      exact ih
theorem look_in {m : Tab} {k : P2} : (look m k).isSome = true ↔ k ∈ m.map (·.1) := by
  rw [← look_any, List.any_eq_true, List.mem_map]
  constructor
  · rintro ⟨x, hx, h⟩
    exact ⟨x, hx, of_decide_eq_true h⟩
  · rintro ⟨x, hx, h⟩
    exact ⟨x, hx, decide_eq_true h⟩
theorem put_keys (m : Tab) (k : P2) (v : Int) : (put m k v).map (·.1) = if (look m k).isSome = true then m.map (·.1) else m.map (·.1) ++ [k] := by
  rw [← look_any]
  unfold put
  split
  · rw [List.map_map]
    refine List.map_congr_left fun x _ => ?_
    show (if x.1 = k then (x.1, v) else x).1 = x.1
    split <;> rfl
  · rw [List.map_append]
    rfl
theorem nd_put {m : Tab} (h : Nd m) (k : P2) (v : Int) : Nd (put m k v) := by
  unfold Nd
  rw [put_keys]
  split
  · exact h
  · rename_i e
    refine List.nodup_append.mpr ⟨h, by simp, fun a ha b hb z => ?_⟩
    rw [List.mem_singleton.mp hb] at z
    exact e (look_in.mpr (z ▸ ha))
theorem put_same : ∀ {m : Tab} {k : P2} {v : Int}, Nd m → look m k = some v → put m k v = m
  | [], k, v, _, h => by cases h
  | x :: m, k, v, nd, h => by
    have hk : ((x :: m).any fun x => decide (x.1 = k)) = true := by rw [look_any, h]; rfl
    unfold put
    rw [if_pos hk]
    refine (List.map_congr_left fun y hy => ?_).trans (List.map_id _)
    by_cases e : y.1 = k
    · rw [if_pos e]
      have : look (x :: m) k = some y.2 := by
        have key : ∀ (l : Tab), Nd l → ∀ y ∈ l, look l y.1 = some y.2 := by
          intro l
          induction l with
          | nil => exact fun _ y hy => nomatch hy
          | cons z l ih =>
            intro nd y hy
            obtain ⟨n1, n2⟩ := List.nodup_cons.mp nd
            unfold look
            rw [List.find?_cons]
            rcases List.mem_cons.mp hy with rfl | hy
            · simp
            · have ne : ¬ z.1 = y.1 := fun q => n1 (List.mem_map.mpr ⟨y, hy, q.symm⟩)
              simp only [ne, decide_false]
              exact ih n2 y hy
        rw [← e]
        exact key _ nd y hy
      rw [h] at this
      rw [Option.some.inj this]
      rfl
    · rw [if_neg e]
      rfl
/-- the program's own store is the law's -/
theorem put_min {m : Tab} (nd : Nd m) (k : P2) (c : Int) : put m k (if (look m k).getD c < c then (look m k).getD c else c) = relax m k c := by
  unfold relax
  cases e : look m k with
  | none =>
    show put m k (if c < c then c else c) = _
    rw [if_neg (by omega)]
  | some v =>
    show put m k (if v < c then v else c) = if c < v then put m k c else m
    by_cases h : v < c
    · rw [if_pos h, if_neg (by omega)]
      exact put_same nd e
    · rw [if_neg h]
      split
      · rfl
      · have : c = v := by omega
        rw [this]
        exact put_same nd e
theorem nd_relax {m : Tab} (nd : Nd m) (k : P2) (c : Int) : Nd (relax m k c) := by
  unfold relax
  split
  · exact nd_put nd k c
  · split
    · exact nd_put nd k c
    · exact nd
def begin0 (ps : List Str) : Tab := ps.foldl (fun m x => put m (x, x) 0) []
abbrev Ctr := Str × Str × Int
def ties (m : Tab) (cs : List Ctr) : Tab := cs.foldl (fun m c => relax m (c.1, c.2.1) c.2.2) m
def tri (a b : Str) (m : Tab) (y : Str) : Tab := match look m (b, a), look m (a, y) with
  | some u, some v => relax m (b, y) (u + v)
  | _, _ => m
def tri2 (ps : List Str) (a : Str) (m : Tab) (b : Str) : Tab := ps.foldl (tri a b) m
def tri3 (ps : List Str) (m : Tab) (a : Str) : Tab := ps.foldl (tri2 ps a) m
def sums (ps : List Str) (cs : List Ctr) : Tab := ps.foldl (tri3 ps) (ties (begin0 ps) cs)
theorem nd_fold {α : Type} {f : Tab → α → Tab} (h : ∀ m x, Nd m → Nd (f m x)) : ∀ (l : List α) (m : Tab), Nd m → Nd (l.foldl f m)
  | [], m, k => k
  | x :: l, m, k => nd_fold h l _ (h m x k)
theorem nd_tri (a b : Str) (m : Tab) (y : Str) (h : Nd m) : Nd (tri a b m y) := by
  unfold tri
  split
  · exact nd_relax h _ _
  · exact h
theorem nd_tri2 (ps : List Str) (a : Str) (m : Tab) (b : Str) (h : Nd m) : Nd (tri2 ps a m b) := nd_fold (nd_tri a b) ps m h
theorem nd_tri3 (ps : List Str) (m : Tab) (a : Str) (h : Nd m) : Nd (tri3 ps m a) := nd_fold (nd_tri2 ps a) ps m h
theorem nd_begin0 (ps : List Str) : Nd (begin0 ps) := nd_fold (fun m x h => nd_put h _ _) ps [] List.nodup_nil
theorem nd_ties {m : Tab} (h : Nd m) (cs : List Ctr) : Nd (ties m cs) := nd_fold (fun m c h => nd_relax h _ _) cs m h
theorem nd_sums (ps : List Str) (cs : List Ctr) : Nd (sums ps cs) := nd_fold (nd_tri3 ps) ps _ (nd_ties (nd_begin0 ps) cs)
theorem fold_snoc {α : Type} (f : Tab → α → Tab) (m : Tab) (l : List α) (x : α) : (l ++ [x]).foldl f m = f (l.foldl f m) x := by
  rw [List.foldl_append]
  rfl
/-! ### as a dict -/
def key (k : P2) : List Key := [Sum.inr k.1, Sum.inr k.2]
theorem key_inj {a b : P2} (h : key a = key b) : a = b := by
  unfold key at h
  injection h with h1 h2
  injection h2 with h2 _
  exact Prod.ext (Sum.inr.inj h1) (Sum.inr.inj h2)
def enc (m : Tab) : List (List Key × V) := m.map fun x => (key x.1, V.int x.2)
theorem enc_val : ∀ (m : Tab) (k : P2), valV (enc m) (key k) = (look m k).map V.int
  | [], k => rfl
  | x :: m, k => by
    have ih := enc_val m k
    show valV ((key x.1, V.int x.2) :: enc m) (key k) = _
    unfold look
    rw [List.find?_cons]
    by_cases e : x.1 = k
    · rw [valV_pos (show ((key x.1, V.int x.2) : List Key × V).1 = key k by rw [e])]
      simp [e]
    · rw [valV_neg (show ¬ ((key x.1, V.int x.2) : List Key × V).1 = key k from fun z => e (key_inj z)), ih]
      simp only [e, decide_false]
      rfl
theorem enc_put (m : Tab) (k : P2) (v : Int) : putK (enc m) (key k) (.int v) = enc (put m k v) := by
  have h1 : ((enc m).any fun kv => decide (kv.1 = key k)) = (m.any fun x => decide (x.1 = k)) := by
    rw [valV_any, enc_val, look_any]
    cases look m k <;> rfl
  unfold putK put
  rw [h1]
  split
  · unfold enc
    rw [List.map_map, List.map_map]
    refine List.map_congr_left fun x _ => ?_
    show (if key x.1 = key k then (key x.1, V.int v) else (key x.1, V.int x.2)) = (key (if x.1 = k then (x.1, v) else x).1, V.int (if x.1 = k then (x.1, v) else x).2)
    by_cases e : x.1 = k
    · rw [if_pos e, if_pos (by rw [e])]
    · rw [if_neg e, if_neg fun z => e (key_inj z)]
  · unfold enc
    rw [List.map_append]
    rfl
theorem enc_len (m : Tab) : (enc m).length = m.length := by
  unfold enc
  rw [List.length_map]
end M16
namespace M16
open PySem PySem.Spec PyProof.Rows L2 So PySem.W
def prK (k : P2) : PyData := .tuple [.str k.1, .str k.2]
def ctD (c : Ctr) : PyData := .tuple [.str c.1, .str c.2.1, .int c.2.2]
def trp (x : P2 × Int) : Ctr := (x.1.1, x.1.2, x.2)
def kle : P2 × Int → P2 × Int → Bool := dataLe false fun x => prK x.1
def tle : P2 × Int → P2 × Int → Bool := dataLe false fun x => ctD (trp x)
def rows (m : Tab) : List Ctr := ((m.mergeSort kle).filter fun x => decide (x.1.1 ≠ x.1.2)).map trp
theorem kle_total : TotalLe kle := by
  unfold kle dataLe
  exact sortLe_total _ _ _
theorem tle_total : TotalLe tle := by
  unfold tle dataLe
  exact sortLe_total _ _ _
theorem eqv_str (x y : Str) : PyData.eqv (.str x) (.str y) = decide (x = y) := by
  show (x == y) = _
  by_cases h : x = y
  · simp [h]
  · simp [h]
theorem lt_same {x y : P2 × Int} (h : x.1 ≠ y.1) : dataLt (ctD (trp x)) (ctD (trp y)) = dataLt (prK x.1) (prK y.1) := by
  obtain ⟨⟨a, b⟩, c⟩ := x
  obtain ⟨⟨a', b'⟩, c'⟩ := y
  have L : ∀ (x y : Str) (xs ys : List PyData), rowLt (.str x :: xs) (.str y :: ys) = if x = y then rowLt xs ys else dataLt (.str x) (.str y) := fun x y xs ys => by
    unfold rowLt
    rw [dataLt_cons (by simp [alike]), eqv_str]
    by_cases e : x = y
    · rw [if_pos e, if_pos (decide_eq_true e)]
    · rw [if_neg e, if_neg (by simpa using e)]
  show rowLt [.str a, .str b, .int c] [.str a', .str b', .int c'] = rowLt [.str a, .str b] [.str a', .str b']
  rw [L a a' [.str b, .int c] [.str b', .int c'], L a a' [.str b] [.str b']]
  by_cases h1 : a = a'
  · rw [if_pos h1, if_pos h1, L b b' [.int c] [.int c'], L b b' [] []]
    have h2 : ¬ b = b' := fun z => h (Prod.ext h1 z)
    rw [if_neg h2, if_neg h2]
  · rw [if_neg h1, if_neg h1]
theorem tle_kle {m : Tab} (nd : Nd m) : ∀ x ∈ m, ∀ y ∈ m, tle x y = kle x y := by
  intro x hx y hy
  by_cases e : x.1 = y.1
  · have exy : x = y := by
      have key : ∀ (l : Tab), Nd l → ∀ x ∈ l, ∀ y ∈ l, x.1 = y.1 → x = y := by
        intro l
        induction l with
        | nil => exact fun _ x hx => nomatch hx
        | cons z l ih =>
          intro nd x hx y hy e
          obtain ⟨n1, n2⟩ := List.nodup_cons.mp nd
          rcases List.mem_cons.mp hx with q1 | q1
          · rcases List.mem_cons.mp hy with q2 | q2
            · rw [q1, q2]
            · exact (n1 (List.mem_map.mpr ⟨y, q2, by rw [← e, q1]⟩)).elim
          · rcases List.mem_cons.mp hy with q2 | q2
            · exact (n1 (List.mem_map.mpr ⟨x, q1, by rw [e, q2]⟩)).elim
            · exact ih n2 x q1 y q2 e
      exact key m nd x hx y hy e
    rw [exy, tle_total.refl, kle_total.refl]
  · show (!dataLt (ctD (trp y)) (ctD (trp x))) = !dataLt (prK y.1) (prK x.1)
    rw [lt_same fun z => e z.symm]
theorem look_mem : ∀ {m : Tab}, Nd m → ∀ x ∈ m, look m x.1 = some x.2
  | [], _, x, hx => nomatch hx
  | z :: l, nd, x, hx => by
    obtain ⟨n1, n2⟩ := List.nodup_cons.mp nd
    unfold look
    rw [List.find?_cons]
    rcases List.mem_cons.mp hx with q | q
    · subst q
      simp
    · have ne : ¬ z.1 = x.1 := fun e => n1 (List.mem_map.mpr ⟨x, q, e.symm⟩)
      simp only [ne, decide_false]
      exact look_mem n2 x q
theorem sort_filter (m : Tab) (p : P2 × Int → Bool) : (m.filter p).mergeSort kle = (m.mergeSort kle).filter p := by
  refine (sort_unique kle_total (List.Pairwise.sublist List.filter_sublist (sort_pairwise kle_total m)) fun c => ?_).symm
  have e1 : ∀ l : Tab, (l.filter p).filter (sameRank kle c) = (l.filter (sameRank kle c)).filter p := fun l => by
    rw [List.filter_filter, List.filter_filter]
    exact List.filter_congr fun x _ => Bool.and_comm _ _
  rw [e1, e1, sort_stable kle_total]
theorem rows_sorted {m : Tab} (nd : Nd m) : ((m.filter fun x => decide (x.1.1 ≠ x.1.2)).map fun x => ctD (trp x)).mergeSort dle = (rows m).map ctD := by
  have h1 : (m.filter fun x => decide (x.1.1 ≠ x.1.2)).mergeSort tle = (m.filter fun x => decide (x.1.1 ≠ x.1.2)).mergeSort kle := sort_congr fun a ha b hb => tle_kle nd a (List.mem_filter.mp ha).1 b (List.mem_filter.mp hb).1
  have h2 := sort_maps (r := tle) (s := dle) (fun x => ctD (trp x)) (l := m.filter fun x => decide (x.1.1 ≠ x.1.2)) fun a _ b _ => rfl
  rw [← h2, h1, sort_filter]
  unfold rows
  rw [List.map_map]
  rfl
theorem keys_sorted (m : Tab) : (m.map fun x => prK x.1).mergeSort dle = (m.mergeSort kle).map fun x => prK x.1 := (sort_maps (r := kle) (s := dle) (fun x => prK x.1) (l := m) fun a _ b _ => rfl).symm
end M16
namespace M16
open PySem PySem.Spec PyProof.Rows L2 So PySem.W
/-! every place stands in the table -/
theorem put_has {m : Tab} {k j : P2} {v : Int} (h : (look m j).isSome = true) : (look (put m k v) j).isSome = true := by
  rw [look_in] at h ⊢
  rw [put_keys]
  split
  · exact h
  · exact List.mem_append_left _ h
theorem put_new {m : Tab} {k : P2} {v : Int} : (look (put m k v) k).isSome = true := by
  rw [look_in, put_keys]
  split
  · rename_i e
    exact look_in.mp e
  · exact List.mem_append_right _ List.mem_cons_self
theorem relax_has {m : Tab} {k j : P2} {c : Int} (h : (look m j).isSome = true) : (look (relax m k c) j).isSome = true := by
  unfold relax
  split
  · exact put_has h
  · split
    · exact put_has h
    · exact h
theorem fold_has {α : Type} {f : Tab → α → Tab} {j : P2} (hf : ∀ m x, (look m j).isSome = true → (look (f m x) j).isSome = true) : ∀ (l : List α) (m : Tab), (look m j).isSome = true → (look (l.foldl f m) j).isSome = true
  | [], m, h => h
  | x :: l, m, h => fold_has hf l _ (hf m x h)
theorem tri_has {a b y : Str} {m : Tab} {j : P2} (h : (look m j).isSome = true) : (look (tri a b m y) j).isSome = true := by
  unfold tri
  split
  · exact relax_has h
  · exact h
theorem begin_has : ∀ (ps : List Str) (m : Tab) (x : Str), x ∈ ps → (look (ps.foldl (fun m x => put m (x, x) 0) m) (x, x)).isSome = true
  | p :: ps, m, x, h => by
    show (look (ps.foldl _ (put m (p, p) 0)) (x, x)).isSome = true
    by_cases e : x ∈ ps
    · exact begin_has ps _ x e
    · rcases List.mem_cons.mp h with rfl | h
      · exact fold_has (fun m y h => put_has h) ps _ put_new
      · exact absurd h e
theorem sums_has {ps : List Str} {cs : List Ctr} {x : Str} (h : x ∈ ps) : ∃ v, look (sums ps cs) (x, x) = some v := by
  have h1 : (look (ties (begin0 ps) cs) (x, x)).isSome = true := fold_has (fun m c h => relax_has h) cs _ (begin_has ps [] x h)
  have h2 : (look (sums ps cs) (x, x)).isSome = true := fold_has (fun m a h => fold_has (fun m b h => fold_has (fun m y h => tri_has h) ps m h) ps m h) ps _ h1
  cases e : look (sums ps cs) (x, x) with
  | none =>
    rw [e] at h2
    cases h2
  | some v => exact ⟨v, rfl⟩
def getI (m : Tab) (x : Str) : Int := (look m (x, x)).getD 0
def satB (ps : List Str) (cs : List Ctr) : Bool := ps.all fun x => decide (0 ≤ getI (sums ps cs) x)
def rowsOf (ps : List Str) (cs : List Ctr) : List Ctr := if satB ps cs = true then rows (sums ps cs) else [(Str.ofString "", Str.ofString "", -1)]
end M16
namespace M16
open PySem PySem.Spec PyProof.Rows L2 So PySem.W
/-! the keys of the table -/
def AllK (p : Str → Prop) (m : Tab) : Prop := ∀ k ∈ m.map (·.1), p k.1 ∧ p k.2
theorem ak_put {p : Str → Prop} {m : Tab} {k : P2} {v : Int} (h : AllK p m) (hk : p k.1 ∧ p k.2) : AllK p (put m k v) := by
  intro j hj
  rw [put_keys] at hj
  split at hj
  · exact h j hj
  · rcases List.mem_append.mp hj with hj | hj
    · exact h j hj
    · rw [List.mem_singleton.mp hj]
      exact hk
theorem ak_relax {p : Str → Prop} {m : Tab} {k : P2} {c : Int} (h : AllK p m) (hk : p k.1 ∧ p k.2) : AllK p (relax m k c) := by
  unfold relax
  split
  · exact ak_put h hk
  · split
    · exact ak_put h hk
    · exact h
theorem ak_fold {α : Type} {p : Str → Prop} {f : Tab → α → Tab} : ∀ (l : List α) (m : Tab), (∀ m x, x ∈ l → AllK p m → AllK p (f m x)) → AllK p m → AllK p (l.foldl f m)
  | [], m, _, h => h
  | x :: l, m, hf, h => ak_fold l _ (fun m y hy => hf m y (List.mem_cons_of_mem _ hy)) (hf m x List.mem_cons_self h)
theorem ak_tri {p : Str → Prop} {a b y : Str} {m : Tab} (h : AllK p m) (hb : p b) (hy : p y) : AllK p (tri a b m y) := by
  unfold tri
  split
  · exact ak_relax h ⟨hb, hy⟩
  · exact h
theorem ak_sums {p : Str → Prop} {ps : List Str} {cs : List Ctr} (hp : ∀ x ∈ ps, p x) (hc : ∀ c ∈ cs, p c.1 ∧ p c.2.1) : AllK p (sums ps cs) := by
  have h0 : AllK p (begin0 ps) := ak_fold ps [] (fun m x hx h => ak_put h ⟨hp x hx, hp x hx⟩) (fun k hk => nomatch hk)
  have h1 : AllK p (ties (begin0 ps) cs) := ak_fold cs _ (fun m c hx h => ak_relax h (hc c hx)) h0
  exact ak_fold ps _ (fun m a _ h => ak_fold ps m (fun m b hb h => ak_fold ps m (fun m y hy h => ak_tri h (hp b hb) (hp y hy)) h) h) h1
theorem ak_rows {p : Str → Prop} {ps : List Str} {cs : List Ctr} (hp : ∀ x ∈ ps, p x) (h0 : p (Str.ofString "")) (hc : ∀ c ∈ cs, p c.1 ∧ p c.2.1) : ∀ c ∈ rowsOf ps cs, p c.1 ∧ p c.2.1 := by
  intro c h
  unfold rowsOf at h
  split at h
  · unfold rows at h
    obtain ⟨x, hx, rfl⟩ := List.mem_map.mp h
    exact ak_sums hp hc x.1 (List.mem_map.mpr ⟨x, List.mem_mergeSort.mp (List.mem_filter.mp hx).1, rfl⟩)
  · rw [List.mem_singleton.mp h]
    exact ⟨h0, h0⟩
end M16
namespace K16
local macro_rules | `(tactic| walk_at "rd") => `(tactic| repeat (first | refine ⟨rfl, ?_⟩ | refine ⟨_, rfl, ?_⟩ | refine ⟨_, _, rfl, rfl, ?_⟩ | refine ⟨⟨_, rfl⟩, ?_⟩))
open PySem PySem.Spec PyProof.Rows L2 Bx TL Dx Zx Ow Dt M16
def topS (i : Nat) : Stmt := PySem.Challenge.pw_shadowlinks_k16_differences_grow.main.body.getD i (.Pass ⟨0, 0, 0, 0⟩)
abbrev s__least_sums : Stmt := topS 6
abbrev n__least_sums : List Str := ["places", "constraints", "sums", "middle", "x", "y", "c", "around"]
theorem sc__least_sums : FnScope n__least_sums ["places", "constraints"] (defScope s__least_sums) := ⟨rfl, rfl, rfl, by decide +kernel, rfl, by decide +kernel, by decide +kernel⟩
abbrev s__normal_rows : Stmt := topS 7
abbrev n__normal_rows : List Str := ["sums", "x", "y"]
theorem sc__normal_rows : FnScope n__normal_rows ["sums"] (defScope s__normal_rows) := ⟨rfl, rfl, rfl, by decide +kernel, rfl, by decide +kernel, by decide +kernel⟩
abbrev s_Differences___init__ : Stmt := inClass (topS 5) 0
abbrev n_Differences___init__ : List Str := ["self", "theory", "names", "constraints", "x"]
theorem sc_Differences___init__ : FnScope n_Differences___init__ ["self", "theory"] (defScope s_Differences___init__) := ⟨rfl, rfl, rfl, by decide +kernel, rfl, by decide +kernel, by decide +kernel⟩
abbrev s_Differences_satisfiable : Stmt := inClass (topS 5) 1
abbrev n_Differences_satisfiable : List Str := ["self"]
theorem sc_Differences_satisfiable : FnScope n_Differences_satisfiable ["self"] (defScope s_Differences_satisfiable) := ⟨rfl, rfl, rfl, by decide +kernel, rfl, by decide +kernel, by decide +kernel⟩
abbrev s_Differences___len__ : Stmt := inClass (topS 5) 4
abbrev n_Differences___len__ : List Str := ["self"]
theorem sc_Differences___len__ : FnScope n_Differences___len__ ["self"] (defScope s_Differences___len__) := ⟨rfl, rfl, rfl, by decide +kernel, rfl, by decide +kernel, by decide +kernel⟩
abbrev s_Differences___iter__ : Stmt := inClass (topS 5) 5
abbrev n_Differences___iter__ : List Str := ["self"]
theorem sc_Differences___iter__ : FnScope n_Differences___iter__ ["self"] (defScope s_Differences___iter__) := ⟨rfl, rfl, rfl, by decide +kernel, rfl, by decide +kernel, by decide +kernel⟩
abbrev s_Differences___getitem__ : Stmt := inClass (topS 5) 6
abbrev n_Differences___getitem__ : List Str := ["self", "at", "x", "y"]
theorem sc_Differences___getitem__ : FnScope n_Differences___getitem__ ["self", "at"] (defScope s_Differences___getitem__) := ⟨rfl, rfl, rfl, by decide +kernel, rfl, by decide +kernel, by decide +kernel⟩
abbrev s_Differences___contains__ : Stmt := inClass (topS 5) 7
abbrev n_Differences___contains__ : List Str := ["self", "x", "greatest", "first", "second", "bound"]
theorem sc_Differences___contains__ : FnScope n_Differences___contains__ ["self", "x"] (defScope s_Differences___contains__) := ⟨rfl, rfl, rfl, by decide +kernel, rfl, by decide +kernel, by decide +kernel⟩
abbrev s_Differences___add__ : Stmt := inClass (topS 5) 8
abbrev n_Differences___add__ : List Str := ["self", "other", "names", "constraints"]
theorem sc_Differences___add__ : FnScope n_Differences___add__ ["self", "other"] (defScope s_Differences___add__) := ⟨rfl, rfl, rfl, by decide +kernel, rfl, by decide +kernel, by decide +kernel⟩
abbrev s__law_is_int : Stmt := topS 17
abbrev n__law_is_int : List Str := ["_law_value"]
theorem sc__law_is_int : FnScope n__law_is_int ["_law_value"] (defScope s__law_is_int) := ⟨rfl, rfl, rfl, by decide +kernel, rfl, by decide +kernel, by decide +kernel⟩
abbrev s__law_difference_right : Stmt := topS 18
abbrev n__law_difference_right : List Str := ["_law_actual", "_law_sums_here", "_law_there", "_law_x", "_law_y", "e", "_law_told"]
theorem sc__law_difference_right : FnScope n__law_difference_right ["_law_actual", "_law_sums_here", "_law_there", "_law_x", "_law_y"] (defScope s__law_difference_right) := ⟨rfl, rfl, rfl, by decide +kernel, rfl, by decide +kernel, by decide +kernel⟩
abbrev s__law_follows_right : Stmt := topS 19
abbrev n__law_follows_right : List Str := ["_law_actual", "_law_sums_here", "_law_there", "_law_x", "_law_y"]
theorem sc__law_follows_right : FnScope n__law_follows_right ["_law_actual", "_law_sums_here", "_law_there", "_law_x", "_law_y"] (defScope s__law_follows_right) := ⟨rfl, rfl, rfl, by decide +kernel, rfl, by decide +kernel, by decide +kernel⟩
abbrev s__law_object_right : Stmt := topS 20
abbrev n__law_object_right : List Str := ["_law_theory_here", "_law_actual", "_law_sums_here", "_law_there", "_law_expected", "_law_ends", "_law_x", "_law_y", "_law_pair", "_law_constraint_here"]
theorem sc__law_object_right : FnScope n__law_object_right ["_law_theory_here", "_law_actual"] (defScope s__law_object_right) := ⟨rfl, rfl, rfl, by decide +kernel, rfl, by decide +kernel, by decide +kernel⟩
abbrev s_law : Stmt := topS 21
abbrev n_law : List Str := ["_law_script", "_law_source_here", "_law_theory_here", "_law_at_once", "_law_known", "_law_objects", "_law_theories", "_law_k", "_law_again", "_law_other"]
theorem sc_law : FnScope n_law ["_law_script"] (defScope s_law) := ⟨rfl, rfl, rfl, by decide +kernel, rfl, by decide +kernel, by decide +kernel⟩
abbrev s__law_source : Stmt := topS 9
abbrev n__law_source : List Str := ["_law_script", "_law_k", "_law_number"]
theorem sc__law_source : FnScope n__law_source ["_law_script", "_law_k"] (defScope s__law_source) := ⟨rfl, rfl, rfl, by decide +kernel, rfl, by decide +kernel, by decide +kernel⟩
abbrev s__law_draw : Stmt := topS 10
abbrev n__law_draw : List Str := ["_law_source_here", "_law_limit", "_law_number", "_law_mixed"]
theorem sc__law_draw : FnScope n__law_draw ["_law_source_here", "_law_limit"] (defScope s__law_draw) := ⟨rfl, rfl, rfl, by decide +kernel, rfl, by decide +kernel, by decide +kernel⟩
abbrev s__law_some : Stmt := topS 11
abbrev n__law_some : List Str := ["_law_source_here", "_law_names", "_law_most", "_law_found", "_law_name"]
theorem sc__law_some : FnScope n__law_some ["_law_source_here", "_law_names", "_law_most"] (defScope s__law_some) := ⟨rfl, rfl, rfl, by decide +kernel, rfl, by decide +kernel, by decide +kernel⟩
abbrev s__law_bound : Stmt := topS 12
abbrev n__law_bound : List Str := ["_law_source_here"]
theorem sc__law_bound : FnScope n__law_bound ["_law_source_here"] (defScope s__law_bound) := ⟨rfl, rfl, rfl, by decide +kernel, rfl, by decide +kernel, by decide +kernel⟩
abbrev s__law_constraint : Stmt := topS 13
abbrev n__law_constraint : List Str := ["_law_source_here", "_law_names", "_law_ends", "_law_x", "_law_y"]
theorem sc__law_constraint : FnScope n__law_constraint ["_law_source_here", "_law_names"] (defScope s__law_constraint) := ⟨rfl, rfl, rfl, by decide +kernel, rfl, by decide +kernel, by decide +kernel⟩
abbrev s__law_theory : Stmt := topS 14
abbrev n__law_theory : List Str := ["_law_source_here", "_law_pool", "_law_names", "_law_constraints", "_law_k"]
theorem sc__law_theory : FnScope n__law_theory ["_law_source_here"] (defScope s__law_theory) := ⟨rfl, rfl, rfl, by decide +kernel, rfl, by decide +kernel, by decide +kernel⟩
abbrev s__law_sums : Stmt := topS 15
abbrev n__law_sums : List Str := ["_law_theory_here", "_law_places", "_law_sums_here", "_law_place", "_law_constraint_here", "_law_middle", "_law_pair", "_law_x", "_law_y", "_law_total"]
theorem sc__law_sums : FnScope n__law_sums ["_law_theory_here"] (defScope s__law_sums) := ⟨rfl, rfl, rfl, by decide +kernel, rfl, by decide +kernel, by decide +kernel⟩
abbrev s__law_satisfiable : Stmt := topS 16
abbrev n__law_satisfiable : List Str := ["_law_theory_here", "_law_sums_here", "_law_place"]
theorem sc__law_satisfiable : FnScope n__law_satisfiable ["_law_theory_here", "_law_sums_here"] (defScope s__law_satisfiable) := ⟨rfl, rfl, rfl, by decide +kernel, rfl, by decide +kernel, by decide +kernel⟩
section
variable {P : Program} {w : World} {K : PySem.W.Frag} {mg : Str → Option Value} {base : Heap}
theorem hu_of {k : Nat} {A : Around} (r : Room k A) : A.units + 1 < cLine := by
  have := r.un
  omega
theorem hu0_of {k : Nat} {A : Around} (r : Room k A) : A.units < cLine := by
  have := r.un
  omega
/-! ### constraints as data -/
theorem ct_dp {H : Hp} {a : Addr} {x y : Str} {c : Int} (h : SqT K H a [.str x, .str y, .int c]) : Dp K H (.ref a) (ctD (x, y, c)) := .tup h (.cons (.str _) (.cons (.str _) (da_one (.int _))))
theorem ct_inv {H : Hp} {v : V} {c : Ctr} (h : Dp K H v (ctD c)) : ∃ a, v = .ref a ∧ SqT K H a [.str c.1, .str c.2.1, .int c.2.2] := by
  obtain ⟨a, xs, rfl, s, t⟩ := dp_tup h
  cases t with
  | cons h1 t =>
    cases t with
    | cons h2 t =>
      cases t with
      | cons h3 t =>
        cases t
        rw [dp_str h1, dp_str h2, dp_int h3] at s
        exact ⟨a, rfl, s⟩
theorem ct_at {H : Hp} {xs : List V} {cs : List Ctr} (hd : DpAll K H xs (cs.map ctD)) {i : Nat} {v : V} (hx : xs[i]? = some v) : ∃ c, cs[i]? = some c ∧ ∃ a, v = .ref a ∧ SqT K H a [.str c.1, .str c.2.1, .int c.2.2] := by
  obtain ⟨d, hd2, hxd⟩ := da_at hd hx
  rw [List.getElem?_map] at hd2
  cases e : cs[i]? with
  | none =>
    rw [e] at hd2
    cases hd2
  | some p =>
    rw [e] at hd2
    cases hd2
    exact ⟨p, rfl, ct_inv hxd⟩
/-! ### the dict of sums at d -/
def Tb (H : Hp) (d : Addr) (m : Tab) : Prop := H d = some (.dT (enc m))
theorem get_at {H : Hp} {d t : Addr} {m : Tab} {k : P2} (h : Tb H d m) (ht : H t = some (.tup [.str k.1, .str k.2])) : DGet H d (.ref t) ((look m k).map V.int) := by
  rw [← enc_val]
  exact DGet.t (k := key k) h ht
theorem get_some {H : Hp} {d t : Addr} {m : Tab} {k : P2} {v : Int} (h : Tb H d m) (ht : H t = some (.tup [.str k.1, .str k.2])) (e : look m k = some v) : DGet H d (.ref t) (some (.int v)) := by
  have z := get_at h ht
  rw [e] at z
  exact z
theorem getD_int {o : Option Int} {c : Int} : (o.map V.int).getD (.int c) = .int (o.getD c) := by cases o <;> rfl
theorem put_at {H : Hp} {d t : Addr} {m : Tab} {k : P2} {v : Int} (h : Tb H d m) (ht : H t = some (.tup [.str k.1, .str k.2])) (hl : m.length < 100000) : DPut H d (.ref t) (.int v) (upd H d (.dT (enc (put m k v)))) := by
  have z := DPut.t (k := key k) (v := .int v) h ht (szl (by rw [enc_len]; exact hl))
  rw [enc_put] at z
  exact z
theorem put_len (m : Tab) (k : P2) (v : Int) : (put m k v).length ≤ m.length + 1 := by
  have := length_putK (enc m) (key k) (.int v)
  rw [enc_put, enc_len, enc_len] at this
  exact this
theorem relax_len (m : Tab) (k : P2) (c : Int) : (relax m k c).length ≤ m.length + 1 := by
  unfold relax
  split
  · exact put_len _ _ _
  · split
    · exact put_len _ _ _
    · omega
theorem tri_len (a b : Str) (m : Tab) (y : Str) : (tri a b m y).length ≤ m.length + 1 := by
  unfold tri
  split
  · exact relax_len _ _ _
  · omega
theorem fold_len {α : Type} {f : Tab → α → Tab} {c : Nat} (h : ∀ m x, (f m x).length ≤ m.length + c) : ∀ (l : List α) (m : Tab), (l.foldl f m).length ≤ m.length + l.length * c
  | [], m => by simp
  | x :: l, m => by
    have h1 := fold_len h l (f m x)
    have h2 := h m x
    rw [List.length_cons, Nat.succ_mul]
    show (l.foldl f (f m x)).length ≤ _
    omega
theorem tri2_len {ps : List Str} (hl : ps.length ≤ 9) (a : Str) (m : Tab) (b : Str) : (tri2 ps a m b).length ≤ m.length + 9 := by
  have := fold_len (tri_len a b) ps m
  unfold tri2
  omega
theorem tri3_len {ps : List Str} (hl : ps.length ≤ 9) (m : Tab) (a : Str) : (tri3 ps m a).length ≤ m.length + 81 := by
  have := fold_len (tri2_len hl a) ps m
  unfold tri3
  omega
@[irreducible] def spSums (K : PySem.W.Frag) : Sp := fun vs H Q _ => ∃ (a b : Addr) (ps : List Str) (xs : List V) (cs : List Ctr), vs = [.ref a, .ref b] ∧ SqL K H a (ps.map V.str) ∧ SqT K H b xs ∧ DpAll K H xs (cs.map ctD) ∧ ps.length ≤ 9 ∧ cs.length ≤ 100 ∧ ∀ d H', Same H H' → H d = none → Tb H' d (sums ps cs) → Q (.ref d) H'
theorem ok_least_sums {f : Addr} {fd : FuncData} (F : Fun K "_least_sums" "_least_sums" s__least_sums f fd) (m_min : mg "min" = none) : FnOk P w K mg base CX0 1 f fd ["places", "constraints"] (spSums K) := by
  refine F.ok sc__least_sums (fun vs H Q E h => ?_) (fun cdv A outer s H vs Q E hr h => ?_)
  · unfold spSums at h
    obtain ⟨a, b, ps, xs, cs, rfl, _⟩ := h
    rfl
  · unfold spSums at h
    obtain ⟨a, b, ps, xs, cs, rfl, hp, hb, hd, hl, hcl, q⟩ := h
    have hu := hu_of hr
    have hu0 := hu0_of hr
    have hxl : xs.length = cs.length := by rw [da_len hd, List.length_map]
    refine ⟨_, (pss_cons (Dt.ps_setDcT (i := 2) (own := [("x", 4)]) (tt := tYes) hu0 rfl sc__least_sums.nd rfl rfl (sw_trueD rfl rfl rfl (by decide +kernel)) (pi_list (pv 0)) (blkOk_by (N := n__least_sums) (sc := defScope s__least_sums) (by decide +kernel)) (fun _ _ _ _ _ => pg_name (i := 4) sc__least_sums.nd rfl (Or.inl rfl)) (fun _ _ _ _ _ => pts_nil) (fun _ _ _ _ _ => (pe_tup (pa_cons (pv 4) (pa_cons (pv 4) pa_nil)))) (fun _ _ _ _ _ => pe_int))
    (pss_cons (ps_for PassesOwn.never rfl (pi_tup (pv 1)) (pg_tup rfl (pgs_cons (pg_name (i := 4) sc__least_sums.nd rfl (Or.inl rfl)) (pgs_cons (pg_name (i := 5) sc__least_sums.nd rfl (Or.inl rfl)) (pgs_cons (pg_name (i := 6) sc__least_sums.nd rfl (Or.inl rfl)) pgs_nil))))
      (pss_one (ps_dput hu (pv 2) (pe_tup (pa_cons (pv 4) (pa_cons (pv 5) pa_nil))) (pe_callB (call_min2 rfl) (by rfl) m_min (by decide +kernel) (pa_cons (pv 6) (pa_cons (pe_dget2 hu (pv 2) (pe_tup (pa_cons (pv 4) (pa_cons (pv 5) pa_nil))) (pv 6) ⟨rfl, rfl, rfl, rfl⟩) pa_nil))) rfl)))
    (pss_cons (ps_for PassesOwn.never rfl (pi_list (pv 0)) (pg_name (i := 3) sc__least_sums.nd rfl (Or.inl rfl))
      (pss_one (ps_for PassesOwn.never rfl (pi_list (pv 0)) (pg_name (i := 4) sc__least_sums.nd rfl (Or.inl rfl))
      (pss_one (ps_for PassesOwn.never rfl (pi_list (pv 0)) (pg_name (i := 5) sc__least_sums.nd rfl (Or.inl rfl))
      (pss_one (ps_if (PW.pt (pw_and (pt_cmp (pc_din hu (pe_tup (pa_cons (pv 4) (pa_cons (pv 3) pa_nil))) (pv 2))) (pw_and1 (pt_cmp (pc_din hu (pe_tup (pa_cons (pv 3) (pa_cons (pv 5) pa_nil))) (pv 2))))))
      (pss_cons (ps_set (i := 7) sc__least_sums.nd rfl (Or.inl rfl) (pe_op op_add (pe_dget hu (pv 2) (pe_tup (pa_cons (pv 4) (pa_cons (pv 3) pa_nil))) (fun _ _ => rfl)) (pe_dget hu (pv 2) (pe_tup (pa_cons (pv 3) (pa_cons (pv 5) pa_nil))) (fun _ _ => rfl))))
    (pss_one (ps_dput hu (pv 2) (pe_tup (pa_cons (pv 4) (pa_cons (pv 5) pa_nil))) (pe_callB (call_min2 rfl) (by rfl) m_min (by decide +kernel) (pa_cons (pv 7) (pa_cons (pe_dget2 hu (pv 2) (pe_tup (pa_cons (pv 4) (pa_cons (pv 5) pa_nil))) (pv 7) ⟨rfl, rfl, rfl, rfl⟩) pa_nil))) rfl)))
      pss_nil)))))))
    (pss_one (ps_ret (pv 2)))))), ?_⟩
    walk_at "rd"
    refine ⟨⟨_, hp⟩, fun D nD => ?_⟩
    refine dct_it walk_list (fun i H' => Same H H' ∧ Tb H' D (begin0 (ps.take i)) ∧ (begin0 (ps.take i)).length ≤ i) ⟨same_new nD, upd_same, Nat.le_refl _⟩ (fun i H' _ h => h.1.seq hp) ?_ ?_
    · rintro i x H1 H2 hi ⟨s1, t1, l1⟩ ⟨rfl, hx⟩
      obtain ⟨n, hn, rfl⟩ := at_map hx
      have hnl := (List.getElem?_eq_some_iff.mp hn).1
      refine ⟨rfl, ?_⟩
      walk_at "rd"
      refine ⟨sz (by show 2 ≤ 100000; decide), fun t nt => ?_⟩
      have st := same_new nt (o := .tup [V.str n, V.str n])
      have tk : begin0 (ps.take (i + 1)) = put (begin0 (ps.take i)) (n, n) 0 := by
        unfold begin0
        rw [List.take_add_one, hn]
        exact fold_snoc _ _ _ _
      refine ⟨t, _, key (n, n), rfl, upd_same, st _ _ t1, szl (by rw [enc_len]; omega), same_at nD (Same.trans s1 st), ?_, ?_⟩
      · show upd _ D _ D = _
        rw [upd_same, enc_put, tk]
      · rw [tk]
        exact Nat.le_trans (put_len _ _ _) (Nat.succ_le_succ l1)
    rintro H1 ⟨s1, t1, l1⟩
    rw [List.length_map, List.take_length] at t1 l1
    walk_at "rd"
    refine ⟨⟨_, Bx.Same.tup s1 hb⟩, for_it walk_tup (fun i σ H' => ∃ o3 o4 o5 o6 o7 : Option V, σ = [some (.ref a), some (.ref b), some (.ref D), o3, o4, o5, o6, o7] ∧ Same H H' ∧ Tb H' D (ties (begin0 ps) (cs.take i)) ∧ (ties (begin0 ps) (cs.take i)).length ≤ 9 + i) ⟨_, _, _, _, _, rfl, s1, t1, by show (begin0 ps).length ≤ 9; omega⟩ (fun i σ H' _ ⟨_, _, _, _, _, _, s, _⟩ => Bx.Same.tup s hb) ?_ ?_⟩
    · rintro i x σ H2 H3 hi ⟨o3, o4, o5, o6, o7, rfl, s2, t2, l2⟩ ⟨rfl, hx⟩
      obtain ⟨c, hc, pa, rfl, hpa⟩ := ct_at hd hx
      have nd := nd_ties (nd_begin0 ps) (cs.take i)
      have tk : ties (begin0 ps) (cs.take (i + 1)) = relax (ties (begin0 ps) (cs.take i)) (c.1, c.2.1) c.2.2 := by
        unfold ties
        rw [List.take_add_one, hc]
        exact fold_snoc _ _ _ _
      refine ⟨_, _, rfl, Bx.Same.tup s2 hpa, rfl, _, _, rfl, _, _, rfl, _, _, rfl, rfl, ?_⟩
      walk_at "rd"
      refine ⟨.inr ⟨_, .inl t2⟩, ?_⟩
      walk_at "rd"
      refine ⟨sz (by show 2 ≤ 100000; decide), fun t nt => ?_⟩
      have st := same_new nt (o := .tup [V.str c.1, V.str c.2.1])
      walk_at "rd"
      refine ⟨_, get_at (k := (c.1, c.2.1)) (st _ _ t2) upd_same, ?_⟩
      rw [getD_int]
      walk_at "rd"
      refine ⟨_, _, rfl, ?_⟩
      walk_at "rd"
      refine ⟨sz (by show 2 ≤ 100000; decide), fun u nu => ?_⟩
      have su := same_new nu (o := .tup [V.str c.1, V.str c.2.1])
      refine ⟨_, _, rfl, put_at (k := (c.1, c.2.1)) (su _ _ (st _ _ t2)) upd_same (by omega), ?_⟩
      rw [put_min nd]
      refine ⟨_, _, _, _, _, rfl, same_at nD (Same.trans s2 (Same.trans st su)), ?_, ?_⟩
      · rw [tk]
        exact upd_same
      · rw [tk]
        exact Nat.le_trans (relax_len _ _ _) (Nat.succ_le_succ l2)
    rintro σ H2 ⟨o3, o4, o5, o6, o7, rfl, s2, t2, l2⟩
    rw [hxl, List.take_length] at t2 l2
    have nd0 := nd_ties (nd_begin0 ps) cs
    have len3 : ∀ n, ((ps.take n).foldl (tri3 ps) (ties (begin0 ps) cs)).length ≤ 200 + n * 81 := fun n => by
      have h1 := fold_len (tri3_len hl) (ps.take n) (ties (begin0 ps) cs)
      have h2 : (ps.take n).length ≤ n := by
        rw [List.length_take]
        exact Nat.min_le_left _ _
      have h3 := Nat.mul_le_mul_right 81 h2
      omega
    walk_at "rd"
    refine ⟨⟨_, s2.seq hp⟩, for_it walk_list (fun i σ H' => ∃ o3 o4 o5 o6 o7 : Option V, σ = [some (.ref a), some (.ref b), some (.ref D), o3, o4, o5, o6, o7] ∧ Same H H' ∧ Tb H' D ((ps.take i).foldl (tri3 ps) (ties (begin0 ps) cs))) ⟨_, _, _, _, _, rfl, s2, t2⟩ (fun i σ H' _ ⟨_, _, _, _, _, _, s, _⟩ => s.seq hp) ?_ ?_⟩
    · rintro i x σ H3 H4 hi ⟨o3, o4, o5, o6, o7, rfl, s3, t3⟩ ⟨rfl, hx⟩
      obtain ⟨mid, hm, rfl⟩ := at_map hx
      have tk3 : (ps.take (i + 1)).foldl (tri3 ps) (ties (begin0 ps) cs) = tri3 ps ((ps.take i).foldl (tri3 ps) (ties (begin0 ps) cs)) mid := by
        rw [List.take_add_one, hm]
        exact fold_snoc _ _ _ _
      have nd3 : Nd ((ps.take i).foldl (tri3 ps) (ties (begin0 ps) cs)) := nd_fold (nd_tri3 ps) _ _ nd0
      have ln3 := len3 i
      rw [tk3]
      generalize (ps.take i).foldl (tri3 ps) (ties (begin0 ps) cs) = m3 at *
      walk_at "rd"
      have hip := (List.getElem?_eq_some_iff.mp hm).1
      refine ⟨⟨_, s3.seq hp⟩, for_it walk_list (fun j σ H' => ∃ o4 o5 o6 o7 : Option V, σ = [some (.ref a), some (.ref b), some (.ref D), some (.str mid), o4, o5, o6, o7] ∧ Same H H' ∧ Tb H' D ((ps.take j).foldl (tri2 ps mid) m3)) ⟨_, _, _, _, rfl, s3, t3⟩ (fun j σ H' _ ⟨_, _, _, _, _, s, _⟩ => s.seq hp) ?_ ?_⟩
      · rintro j x σ H5 H6 hj ⟨o4, o5, o6, o7, rfl, s5, t5⟩ ⟨rfl, hx5⟩
        obtain ⟨lo, hlo, rfl⟩ := at_map hx5
        have tk2 : (ps.take (j + 1)).foldl (tri2 ps mid) m3 = tri2 ps mid ((ps.take j).foldl (tri2 ps mid) m3) lo := by
          rw [List.take_add_one, hlo]
          exact fold_snoc _ _ _ _
        have nd2 : Nd ((ps.take j).foldl (tri2 ps mid) m3) := nd_fold (nd_tri2 ps mid) _ _ nd3
        have hjp := (List.getElem?_eq_some_iff.mp hlo).1
        have ln2 : ((ps.take j).foldl (tri2 ps mid) m3).length ≤ 2000 := by
          have h1 := fold_len (tri2_len hl mid) (ps.take j) m3
          have h2 : (ps.take j).length ≤ 9 := by
            rw [List.length_take]
            omega
          omega
        rw [tk2]
        generalize (ps.take j).foldl (tri2 ps mid) m3 = m2 at *
        walk_at "rd"
        refine ⟨⟨_, s5.seq hp⟩, for_it walk_list (fun k σ H' => ∃ o5 o6 o7 : Option V, σ = [some (.ref a), some (.ref b), some (.ref D), some (.str mid), some (.str lo), o5, o6, o7] ∧ Same H H' ∧ Tb H' D ((ps.take k).foldl (tri mid lo) m2)) ⟨_, _, _, rfl, s5, t5⟩ (fun k σ H' _ ⟨_, _, _, _, s, _⟩ => s.seq hp) ?_ ?_⟩
        · rintro k x σ H7 H8 hk ⟨o5, o6, o7, rfl, s7, t7⟩ ⟨rfl, hx7⟩
          obtain ⟨hi9, hhi, rfl⟩ := at_map hx7
          have tk1 : (ps.take (k + 1)).foldl (tri mid lo) m2 = tri mid lo ((ps.take k).foldl (tri mid lo) m2) hi9 := by
            rw [List.take_add_one, hhi]
            exact fold_snoc _ _ _ _
          have nd1 : Nd ((ps.take k).foldl (tri mid lo) m2) := nd_fold (nd_tri mid lo) _ _ nd2
          have hkp := (List.getElem?_eq_some_iff.mp hhi).1
          have ln1 : ((ps.take k).foldl (tri mid lo) m2).length ≤ 3000 := by
            have h1 := fold_len (tri_len mid lo) (ps.take k) m2
            have h2 : (ps.take k).length ≤ 9 := by
              rw [List.length_take]
              omega
            omega
          rw [tk1]
          generalize (ps.take k).foldl (tri mid lo) m2 = m1 at *
          unfold tri
          walk_at "rd"
          refine ⟨sz (by show 2 ≤ 100000; decide), fun t nt => ?_⟩
          have st := same_new nt (o := .tup [V.str lo, V.str mid])
          walk_at "rd"
          refine ⟨D, _, rfl, get_at (k := (lo, mid)) (st _ _ t7) upd_same, ?_⟩
          cases e1 : look m1 (lo, mid) with
          | none =>
            walk_at "rd"
            exact ⟨_, _, _, rfl, Same.trans s7 st, st _ _ t7⟩
          | some va =>
            walk_at "rd"
            refine ⟨sz (by show 2 ≤ 100000; decide), fun u nu => ?_⟩
            have su := same_new nu (o := .tup [V.str mid, V.str hi9])
            have s78 := Same.trans s7 (Same.trans st su)
            have t78 := su _ _ (st _ _ t7)
            walk_at "rd"
            refine ⟨D, _, rfl, get_at (k := (mid, hi9)) t78 upd_same, ?_⟩
            cases e2 : look m1 (mid, hi9) with
            | none =>
              walk_at "rd"
              exact ⟨_, _, _, rfl, s78, t78⟩
            | some vb =>
              walk_at "rd"
              refine ⟨sz (by show 2 ≤ 100000; decide), fun t1 nt1 => ?_⟩
              have st1 := same_new nt1 (o := .tup [V.str lo, V.str mid])
              refine ⟨D, _, rfl, get_some (k := (lo, mid)) (st1 _ _ t78) upd_same e1, ?_⟩
              walk_at "rd"
              refine ⟨sz (by show 2 ≤ 100000; decide), fun t2 nt2 => ?_⟩
              have st2 := same_new nt2 (o := .tup [V.str mid, V.str hi9])
              refine ⟨D, _, rfl, get_some (k := (mid, hi9)) (st2 _ _ (st1 _ _ t78)) upd_same e2, ?_⟩
              have s79 := Same.trans s78 (Same.trans st1 st2)
              have t79 := st2 _ _ (st1 _ _ t78)
              walk_at "rd"
              refine ⟨.inr ⟨_, .inl t79⟩, ?_⟩
              walk_at "rd"
              refine ⟨sz (by show 2 ≤ 100000; decide), fun t3 nt3 => ?_⟩
              have st3 := same_new nt3 (o := .tup [V.str lo, V.str hi9])
              walk_at "rd"
              refine ⟨_, get_at (k := (lo, hi9)) (st3 _ _ t79) upd_same, ?_⟩
              rw [getD_int]
              walk_at "rd"
              refine ⟨_, _, rfl, ?_⟩
              walk_at "rd"
              refine ⟨sz (by show 2 ≤ 100000; decide), fun t4 nt4 => ?_⟩
              have st4 := same_new nt4 (o := .tup [V.str lo, V.str hi9])
              refine ⟨_, _, rfl, put_at (k := (lo, hi9)) (st4 _ _ (st3 _ _ t79)) upd_same (by omega), ?_⟩
              rw [put_min nd1]
              exact ⟨_, _, _, rfl, same_at nD (Same.trans s79 (Same.trans st3 st4)), upd_same⟩
        · rintro σ H7 ⟨o5, o6, o7, rfl, s7, t7⟩
          rw [List.length_map, List.take_length] at t7
          exact ⟨_, _, _, _, rfl, s7, t7⟩
      · rintro σ H5 ⟨o4, o5, o6, o7, rfl, s5, t5⟩
        rw [List.length_map, List.take_length] at t5
        exact ⟨_, _, _, _, _, rfl, s5, t5⟩
    · rintro σ H3 ⟨o3, o4, o5, o6, o7, rfl, s3, t3⟩
      rw [List.length_map, List.take_length] at t3
      walk_at "rd"
      exact q D H3 s3 nD t3
end
end K16
namespace K16
local macro_rules | `(tactic| walk_at "rd") => `(tactic| repeat (first | refine ⟨rfl, ?_⟩ | refine ⟨_, rfl, ?_⟩ | refine ⟨_, _, rfl, rfl, ?_⟩ | refine ⟨⟨_, rfl⟩, ?_⟩))
open PySem PySem.Spec PyProof.Rows L2 Bx TL Dx Zx Ow Dt M16
section
variable {P : Program} {w : World} {K : PySem.W.Frag} {mg : Str → Option Value} {base : Heap}
/-- a theory: names and constraints -/
def ThAt (K : PySem.W.Frag) (H : Hp) (a : Addr) (ns : List Str) (cs : List Ctr) : Prop := ∃ n c xs, SqT K H a [.ref n, .ref c] ∧ SqT K H n (ns.map V.str) ∧ SqT K H c xs ∧ DpAll K H xs (cs.map ctD)
def pls (ns : List Str) : List Str := Str.ofString "" :: ns
@[irreducible] def spLSums (K : PySem.W.Frag) : Sp := fun vs H Q _ => ∃ (a : Addr) (ns : List Str) (cs : List Ctr), vs = [.ref a] ∧ ThAt K H a ns cs ∧ ns.length ≤ 8 ∧ cs.length ≤ 100 ∧ ∀ d H', Same H H' → H d = none → Tb H' d (sums (pls ns) cs) → Q (.ref d) H'
theorem ok_law_sums {f : Addr} {fd : FuncData} (F : Fun K "_law_sums" "_law_sums" s__law_sums f fd) (m_list : mg "list" = none) : FnOk P w K mg base CX0 1 f fd ["_law_theory_here"] (spLSums K) := by
  refine F.ok sc__law_sums (fun vs H Q E h => ?_) (fun cdv A outer s H vs Q E hr h => ?_)
  · unfold spLSums at h
    obtain ⟨a, ns, cs, rfl, _⟩ := h
    rfl
  · unfold spLSums at h
    obtain ⟨a, ns, cs, rfl, ⟨na, ca, xs, ha, hn, hc, hd⟩, hnl, hcl, q⟩ := h
    have hu := hu_of hr
    have hxl : xs.length = cs.length := by rw [da_len hd, List.length_map]
    refine ⟨_, (pss_cons (ps_set (i := 1) sc__law_sums.nd rfl (Or.inl rfl) (pe_op op_cat (pe_lst (pa_cons pe_str pa_nil)) (pe_callTy (T := "list") call_list_of (by rfl) m_list (by decide +kernel) (pa_cons (pe_ix ix_tup (pv 0) pe_int (fun _ _ => rfl)) pa_nil))))
    (pss_cons (ps_set (i := 2) sc__law_sums.nd rfl (Or.inl rfl) pe_dnewT)
    (pss_cons (ps_for PassesOwn.never rfl (pi_list (pv 1)) (pg_name (i := 3) sc__law_sums.nd rfl (Or.inl rfl))
      (pss_one (ps_dput hu (pv 2) (pe_tup (pa_cons (pv 3) (pa_cons (pv 3) pa_nil))) pe_int rfl)))
    (pss_cons (ps_for PassesOwn.never rfl (pi_tup (pe_ix ix_tup (pv 0) pe_int (fun _ _ => rfl))) (pg_name (i := 4) sc__law_sums.nd rfl (Or.inl rfl))
      (pss_cons (ps_set (i := 6) sc__law_sums.nd rfl (Or.inl rfl) (pe_tup (pa_cons (pe_ix ix_tup (pv 4) pe_int (fun _ _ => rfl)) (pa_cons (pe_ix ix_tup (pv 4) pe_int (fun _ _ => rfl)) pa_nil))))
    (pss_one (ps_if (PW.pt (pw_or (pt_cmp (pc_dnotin hu (pv 6) (pv 2))) (pw_or1 (pt_cmpR op_lt (pe_ix ix_tup (pv 4) pe_int (fun _ _ => rfl)) (pe_dget hu (pv 2) (pv 6) (fun _ _ => rfl)) (nomark _)))))
      (pss_one (ps_dput hu (pv 2) (pv 6) (pe_ix ix_tup (pv 4) pe_int (fun _ _ => rfl)) rfl))
      pss_nil))))
    (pss_cons (ps_for PassesOwn.never rfl (pi_list (pv 1)) (pg_name (i := 5) sc__law_sums.nd rfl (Or.inl rfl))
      (pss_one (ps_for PassesOwn.never rfl (pi_list (pv 1)) (pg_name (i := 7) sc__law_sums.nd rfl (Or.inl rfl))
      (pss_one (ps_for PassesOwn.never rfl (pi_list (pv 1)) (pg_name (i := 8) sc__law_sums.nd rfl (Or.inl rfl))
      (pss_one (ps_if (PW.pt (pw_and (pt_cmp (pc_din hu (pe_tup (pa_cons (pv 7) (pa_cons (pv 5) pa_nil))) (pv 2))) (pw_and1 (pt_cmp (pc_din hu (pe_tup (pa_cons (pv 5) (pa_cons (pv 8) pa_nil))) (pv 2))))))
      (pss_cons (ps_set (i := 9) sc__law_sums.nd rfl (Or.inl rfl) (pe_op op_add (pe_dget hu (pv 2) (pe_tup (pa_cons (pv 7) (pa_cons (pv 5) pa_nil))) (fun _ _ => rfl)) (pe_dget hu (pv 2) (pe_tup (pa_cons (pv 5) (pa_cons (pv 8) pa_nil))) (fun _ _ => rfl))))
    (pss_one (ps_if (PW.pt (pw_or (pt_cmp (pc_dnotin hu (pe_tup (pa_cons (pv 7) (pa_cons (pv 8) pa_nil))) (pv 2))) (pw_or1 (pt_cmpR op_lt (pv 9) (pe_dget hu (pv 2) (pe_tup (pa_cons (pv 7) (pa_cons (pv 8) pa_nil))) (fun _ _ => rfl)) (nomark _)))))
      (pss_one (ps_dput hu (pv 2) (pe_tup (pa_cons (pv 7) (pa_cons (pv 8) pa_nil))) (pv 9) rfl))
      pss_nil)))
      pss_nil)))))))
    (pss_one (ps_ret (pv 2)))))))), ?_⟩
    walk_at "rd"
    refine ⟨sz (by show 1 ≤ 100000; decide), fun L0 nL0 => ?_⟩
    have s0 := same_new nL0 (o := .lst [V.str (Str.ofString "")])
    walk_at "rd"
    refine ⟨_, _, _, _, rfl, rfl, Bx.Same.tup s0 ha, atI_nat (j := 0) rfl, ?_⟩
    walk_at "rd"
    refine ⟨na, _, rfl, .inr (Bx.Same.tup s0 hn), fun L1 nL1 => ?_⟩
    have s1 := same_new nL1 (o := .lst (ns.map V.str))
    refine ⟨L0, L1, _, _, rfl, rfl, s1 _ _ upd_same, upd_same, sz (by rw [List.length_map]; show 1 + ns.length ≤ 100000; omega), fun L nL => ?_⟩
    have s2 := same_new nL (o := .lst ([V.str (Str.ofString "")] ++ ns.map V.str))
    have sB := Same.trans s0 (Same.trans s1 s2)
    have hL : (upd (upd (upd H L0 (.lst [V.str (Str.ofString "")])) L1 (.lst (ns.map V.str))) L (.lst ([V.str (Str.ofString "")] ++ ns.map V.str))) L = some (.lst ((pls ns).map V.str)) := upd_same
    generalize upd (upd (upd H L0 (.lst [V.str (Str.ofString "")])) L1 (.lst (ns.map V.str))) L (.lst ([V.str (Str.ofString "")] ++ ns.map V.str)) = HB at *
    clear s0 s1 s2 nL0 nL1 nL
    have hps : (pls ns).length ≤ 9 := by
      show ns.length + 1 ≤ 9
      omega
    generalize pls ns = ps at *
    walk_at "rd"
    intro D nD
    have nD0 := sB.free nD
    have sD := same_new nD (o := .dT [])
    walk_at "rd"
    refine ⟨⟨_, sq (sD _ _ hL)⟩, for_it walk_list (fun i σ H' => ∃ o3 o4 o5 o6 o7 o8 o9 : Option V, σ = [some (.ref a), some (.ref L), some (.ref D), o3, o4, o5, o6, o7, o8, o9] ∧ Same HB H' ∧ Tb H' D (begin0 (ps.take i)) ∧ (begin0 (ps.take i)).length ≤ i) ⟨_, _, _, _, _, _, _, rfl, sD, upd_same, Nat.le_refl _⟩ (fun i σ H' _ ⟨_, _, _, _, _, _, _, _, s, _⟩ => sq (s _ _ hL)) ?_ ?_⟩
    · rintro i x σ H1 H2 hi ⟨o3, o4, o5, o6, o7, o8, o9, rfl, s1, t1, l1⟩ ⟨rfl, hx⟩
      obtain ⟨n, hn, rfl⟩ := at_map hx
      have hnl := (List.getElem?_eq_some_iff.mp hn).1
      have tk : begin0 (ps.take (i + 1)) = put (begin0 (ps.take i)) (n, n) 0 := by
        unfold begin0
        rw [List.take_add_one, hn]
        exact fold_snoc _ _ _ _
      walk_at "rd"
      refine ⟨sz (by show 2 ≤ 100000; decide), fun t nt => ?_⟩
      have st := same_new nt (o := .tup [V.str n, V.str n])
      refine ⟨_, _, rfl, put_at (k := (n, n)) (st _ _ t1) upd_same (by omega), ?_⟩
      refine ⟨_, _, _, _, _, _, _, rfl, same_at nD (Same.trans s1 st), ?_, ?_⟩
      · rw [tk]
        exact upd_same
      · rw [tk]
        exact Nat.le_trans (put_len _ _ _) (Nat.succ_le_succ l1)
    rintro σ H1 ⟨o3, o4, o5, o6, o7, o8, o9, rfl, s1, t1, l1⟩
    rw [List.length_map, List.take_length] at t1 l1
    have sH1 := Same.trans sB s1
    walk_at "rd"
    refine ⟨_, _, _, _, rfl, rfl, Bx.Same.tup sH1 ha, atI_nat (j := 1) rfl, ?_⟩
    refine ⟨ca, rfl, ⟨_, Bx.Same.tup sH1 hc⟩, for_it walk_tup (fun i σ H' => ∃ o3 o4 o5 o6 o7 o8 o9 : Option V, σ = [some (.ref a), some (.ref L), some (.ref D), o3, o4, o5, o6, o7, o8, o9] ∧ Same HB H' ∧ Tb H' D (ties (begin0 ps) (cs.take i)) ∧ (ties (begin0 ps) (cs.take i)).length ≤ 9 + i) ⟨_, _, _, _, _, _, _, rfl, s1, t1, by show (begin0 ps).length ≤ 9; omega⟩ (fun i σ H' _ ⟨_, _, _, _, _, _, _, _, s, _⟩ => Bx.Same.tup (Same.trans sB s) hc) ?_ ?_⟩
    · rintro i x σ H2 H3 hi ⟨o3, o4, o5, o6, o7, o8, o9, rfl, s2, t2, l2⟩ ⟨rfl, hx⟩
      obtain ⟨c, hcc, pa, rfl, hpa⟩ := ct_at hd hx
      have hpa2 := Bx.Same.tup (Same.trans sB s2) hpa
      have tk : ties (begin0 ps) (cs.take (i + 1)) = relax (ties (begin0 ps) (cs.take i)) (c.1, c.2.1) c.2.2 := by
        unfold ties
        rw [List.take_add_one, hcc]
        exact fold_snoc _ _ _ _
      rw [tk]
      generalize ties (begin0 ps) (cs.take i) = m at *
      have hci : i < 100 := by
        have := (List.getElem?_eq_some_iff.mp hcc).1
        omega
      walk_at "rd"
      refine ⟨_, _, _, _, rfl, rfl, hpa2, atI_nat (j := 0) rfl, ?_⟩
      walk_at "rd"
      refine ⟨_, _, _, _, rfl, rfl, hpa2, atI_nat (j := 1) rfl, ?_⟩
      walk_at "rd"
      refine ⟨sz (by show 2 ≤ 100000; decide), fun t nt => ?_⟩
      have st := same_new nt (o := .tup [V.str c.1, V.str c.2.1])
      have ht : (upd H3 t (.tup [V.str c.1, V.str c.2.1])) t = some (.tup [V.str c.1, V.str c.2.1]) := upd_same
      have s3 := Same.trans s2 st
      have t3 := st _ _ t2
      have hpa3 := Bx.Same.tup st hpa2
      generalize upd H3 t (.tup [V.str c.1, V.str c.2.1]) = H4 at *
      walk_at "rd"
      refine ⟨D, _, rfl, get_at (k := (c.1, c.2.1)) t3 ht, ?_⟩
      have hln := relax_len m (c.1, c.2.1) c.2.2
      cases e : look m (c.1, c.2.1) with
      | none =>
        have er : relax m (c.1, c.2.1) c.2.2 = put m (c.1, c.2.1) c.2.2 := by
          unfold relax
          rw [e]
        rw [er] at hln ⊢
        walk_at "rd"
        refine ⟨_, _, _, _, rfl, rfl, hpa3, atI_nat (j := 2) rfl, ?_⟩
        walk_at "rd"
        refine ⟨_, _, rfl, put_at (k := (c.1, c.2.1)) t3 ht (by omega), ?_⟩
        exact ⟨_, _, _, _, _, _, _, rfl, same_at nD s3, upd_same, by omega⟩
      | some v =>
        walk_at "rd"
        refine ⟨_, _, _, _, rfl, rfl, hpa3, atI_nat (j := 2) rfl, ?_⟩
        walk_at "rd"
        refine ⟨D, _, rfl, get_some (k := (c.1, c.2.1)) t3 ht e, ?_⟩
        walk_at "rd"
        refine ite2 (fun h0 => ?_) (fun h0 => ?_)
        · have h1 : c.2.2 < v := of_decide_eq_true h0
          have er : relax m (c.1, c.2.1) c.2.2 = put m (c.1, c.2.1) c.2.2 := by
            unfold relax
            rw [e]
            exact if_pos h1
          rw [er] at hln ⊢
          walk_at "rd"
          refine ⟨_, _, _, _, rfl, rfl, hpa3, atI_nat (j := 2) rfl, ?_⟩
          walk_at "rd"
          refine ⟨_, _, rfl, put_at (k := (c.1, c.2.1)) t3 ht (by omega), ?_⟩
          exact ⟨_, _, _, _, _, _, _, rfl, same_at nD s3, upd_same, by omega⟩
        · have h1 : ¬ c.2.2 < v := fun z => h0 (decide_eq_true z)
          have er : relax m (c.1, c.2.1) c.2.2 = m := by
            unfold relax
            rw [e]
            exact if_neg h1
          rw [er] at hln ⊢
          walk_at "rd"
          exact ⟨_, _, _, _, _, _, _, rfl, s3, t3, by omega⟩
    rintro σ H2 ⟨o3, o4, o5, o6, o7, o8, o9, rfl, s2, t2, l2⟩
    rw [hxl, List.take_length] at t2 l2
    have nd0 := nd_ties (nd_begin0 ps) cs
    have len3 : ∀ n, ((ps.take n).foldl (tri3 ps) (ties (begin0 ps) cs)).length ≤ 200 + n * 81 := fun n => by
      have h1 := fold_len (tri3_len hps) (ps.take n) (ties (begin0 ps) cs)
      have h2 : (ps.take n).length ≤ n := by
        rw [List.length_take]
        exact Nat.min_le_left _ _
      have h3 := Nat.mul_le_mul_right 81 h2
      omega
    walk_at "rd"
    refine ⟨⟨_, sq (s2 _ _ hL)⟩, for_it walk_list (fun i σ H' => ∃ o3 o4 o5 o6 o7 o8 o9 : Option V, σ = [some (.ref a), some (.ref L), some (.ref D), o3, o4, o5, o6, o7, o8, o9] ∧ Same HB H' ∧ Tb H' D ((ps.take i).foldl (tri3 ps) (ties (begin0 ps) cs))) ⟨_, _, _, _, _, _, _, rfl, s2, t2⟩ (fun i σ H' _ ⟨_, _, _, _, _, _, _, _, s, _⟩ => sq (s _ _ hL)) ?_ ?_⟩
    · rintro i x σ H3 H4 hi ⟨o3, o4, o5, o6, o7, o8, o9, rfl, s3, t3⟩ ⟨rfl, hx⟩
      obtain ⟨mid, hm, rfl⟩ := at_map hx
      have tk3 : (ps.take (i + 1)).foldl (tri3 ps) (ties (begin0 ps) cs) = tri3 ps ((ps.take i).foldl (tri3 ps) (ties (begin0 ps) cs)) mid := by
        rw [List.take_add_one, hm]
        exact fold_snoc _ _ _ _
      have ln3 := len3 i
      rw [tk3]
      generalize (ps.take i).foldl (tri3 ps) (ties (begin0 ps) cs) = m3 at *
      have hip := (List.getElem?_eq_some_iff.mp hm).1
      walk_at "rd"
      refine ⟨⟨_, sq (s3 _ _ hL)⟩, for_it walk_list (fun j σ H' => ∃ o3 o4 o6 o7 o8 o9 : Option V, σ = [some (.ref a), some (.ref L), some (.ref D), o3, o4, some (.str mid), o6, o7, o8, o9] ∧ Same HB H' ∧ Tb H' D ((ps.take j).foldl (tri2 ps mid) m3)) ⟨_, _, _, _, _, _, rfl, s3, t3⟩ (fun j σ H' _ ⟨_, _, _, _, _, _, _, s, _⟩ => sq (s _ _ hL)) ?_ ?_⟩
      · rintro j x σ H5 H6 hj ⟨o3, o4, o6, o7, o8, o9, rfl, s5, t5⟩ ⟨rfl, hx5⟩
        obtain ⟨lo, hlo, rfl⟩ := at_map hx5
        have tk2 : (ps.take (j + 1)).foldl (tri2 ps mid) m3 = tri2 ps mid ((ps.take j).foldl (tri2 ps mid) m3) lo := by
          rw [List.take_add_one, hlo]
          exact fold_snoc _ _ _ _
        have hjp := (List.getElem?_eq_some_iff.mp hlo).1
        have ln2 : ((ps.take j).foldl (tri2 ps mid) m3).length ≤ 2000 := by
          have h1 := fold_len (tri2_len hps mid) (ps.take j) m3
          have h2 : (ps.take j).length ≤ 9 := by
            rw [List.length_take]
            omega
          omega
        rw [tk2]
        generalize (ps.take j).foldl (tri2 ps mid) m3 = m2 at *
        walk_at "rd"
        refine ⟨⟨_, sq (s5 _ _ hL)⟩, for_it walk_list (fun k σ H' => ∃ o3 o4 o6 o8 o9 : Option V, σ = [some (.ref a), some (.ref L), some (.ref D), o3, o4, some (.str mid), o6, some (.str lo), o8, o9] ∧ Same HB H' ∧ Tb H' D ((ps.take k).foldl (tri mid lo) m2)) ⟨_, _, _, _, _, rfl, s5, t5⟩ (fun k σ H' _ ⟨_, _, _, _, _, _, s, _⟩ => sq (s _ _ hL)) ?_ ?_⟩
        · rintro k x σ H7 H8 hk ⟨o3, o4, o6, o8, o9, rfl, s7, t7⟩ ⟨rfl, hx7⟩
          obtain ⟨hi9, hhi, rfl⟩ := at_map hx7
          have tk1 : (ps.take (k + 1)).foldl (tri mid lo) m2 = tri mid lo ((ps.take k).foldl (tri mid lo) m2) hi9 := by
            rw [List.take_add_one, hhi]
            exact fold_snoc _ _ _ _
          have hkp := (List.getElem?_eq_some_iff.mp hhi).1
          have ln1 : ((ps.take k).foldl (tri mid lo) m2).length ≤ 3000 := by
            have h1 := fold_len (tri_len mid lo) (ps.take k) m2
            have h2 : (ps.take k).length ≤ 9 := by
              rw [List.length_take]
              omega
            omega
          rw [tk1]
          generalize (ps.take k).foldl (tri mid lo) m2 = m1 at *
          walk_at "rd"
          refine ⟨sz (by show 2 ≤ 100000; decide), fun t nt => ?_⟩
          have st := same_new nt (o := .tup [V.str lo, V.str mid])
          walk_at "rd"
          refine ⟨D, _, rfl, get_at (k := (lo, mid)) (st _ _ t7) upd_same, ?_⟩
          cases e1 : look m1 (lo, mid) with
          | none =>
            have et : tri mid lo m1 hi9 = m1 := by unfold tri; rw [e1]
            rw [et]
            walk_at "rd"
            exact ⟨_, _, _, _, _, rfl, Same.trans s7 st, st _ _ t7⟩
          | some va =>
            walk_at "rd"
            refine ⟨sz (by show 2 ≤ 100000; decide), fun u nu => ?_⟩
            have su := same_new nu (o := .tup [V.str mid, V.str hi9])
            have s78 := Same.trans s7 (Same.trans st su)
            have t78 := su _ _ (st _ _ t7)
            walk_at "rd"
            refine ⟨D, _, rfl, get_at (k := (mid, hi9)) t78 upd_same, ?_⟩
            cases e2 : look m1 (mid, hi9) with
            | none =>
              have et : tri mid lo m1 hi9 = m1 := by unfold tri; rw [e1, e2]
              rw [et]
              walk_at "rd"
              exact ⟨_, _, _, _, _, rfl, s78, t78⟩
            | some vb =>
              have et : tri mid lo m1 hi9 = relax m1 (lo, hi9) (va + vb) := by unfold tri; rw [e1, e2]
              rw [et]
              walk_at "rd"
              refine ⟨sz (by show 2 ≤ 100000; decide), fun t1 nt1 => ?_⟩
              have st1 := same_new nt1 (o := .tup [V.str lo, V.str mid])
              refine ⟨D, _, rfl, get_some (k := (lo, mid)) (st1 _ _ t78) upd_same e1, ?_⟩
              walk_at "rd"
              refine ⟨sz (by show 2 ≤ 100000; decide), fun t2 nt2 => ?_⟩
              have st2 := same_new nt2 (o := .tup [V.str mid, V.str hi9])
              refine ⟨D, _, rfl, get_some (k := (mid, hi9)) (st2 _ _ (st1 _ _ t78)) upd_same e2, ?_⟩
              have s79 := Same.trans s78 (Same.trans st1 st2)
              have t79 := st2 _ _ (st1 _ _ t78)
              walk_at "rd"
              refine ⟨sz (by show 2 ≤ 100000; decide), fun t3 nt3 => ?_⟩
              have st3 := same_new nt3 (o := .tup [V.str lo, V.str hi9])
              have s80 := Same.trans s79 st3
              have t80 := st3 _ _ t79
              walk_at "rd"
              refine ⟨D, _, rfl, get_at (k := (lo, hi9)) t80 upd_same, ?_⟩
              cases e3 : look m1 (lo, hi9) with
              | none =>
                have er : relax m1 (lo, hi9) (va + vb) = put m1 (lo, hi9) (va + vb) := by unfold relax; rw [e3]
                rw [er]
                walk_at "rd"
                refine ⟨sz (by show 2 ≤ 100000; decide), fun t4 nt4 => ?_⟩
                have st4 := same_new nt4 (o := .tup [V.str lo, V.str hi9])
                refine ⟨_, _, rfl, put_at (k := (lo, hi9)) (st4 _ _ t80) upd_same (by omega), ?_⟩
                exact ⟨_, _, _, _, _, rfl, same_at nD (Same.trans s80 st4), upd_same⟩
              | some vc =>
                walk_at "rd"
                refine ⟨sz (by show 2 ≤ 100000; decide), fun t5 nt5 => ?_⟩
                have st5 := same_new nt5 (o := .tup [V.str lo, V.str hi9])
                refine ⟨D, _, rfl, get_some (k := (lo, hi9)) (st5 _ _ t80) upd_same e3, ?_⟩
                have s81 := Same.trans s80 st5
                have t81 := st5 _ _ t80
                walk_at "rd"
                refine ite2 (fun h0 => ?_) (fun h0 => ?_)
                · have h1 : va + vb < vc := of_decide_eq_true h0
                  have er : relax m1 (lo, hi9) (va + vb) = put m1 (lo, hi9) (va + vb) := by unfold relax; rw [e3]; exact if_pos h1
                  rw [er]
                  walk_at "rd"
                  refine ⟨sz (by show 2 ≤ 100000; decide), fun t4 nt4 => ?_⟩
                  have st4 := same_new nt4 (o := .tup [V.str lo, V.str hi9])
                  refine ⟨_, _, rfl, put_at (k := (lo, hi9)) (st4 _ _ t81) upd_same (by omega), ?_⟩
                  exact ⟨_, _, _, _, _, rfl, same_at nD (Same.trans s81 st4), upd_same⟩
                · have h1 : ¬ va + vb < vc := fun z => h0 (decide_eq_true z)
                  have er : relax m1 (lo, hi9) (va + vb) = m1 := by unfold relax; rw [e3]; exact if_neg h1
                  rw [er]
                  walk_at "rd"
                  exact ⟨_, _, _, _, _, rfl, s81, t81⟩
        · rintro σ H7 ⟨o3, o4, o6, o8, o9, rfl, s7, t7⟩
          rw [List.length_map, List.take_length] at t7
          exact ⟨_, _, _, _, _, _, rfl, s7, t7⟩
      · rintro σ H5 ⟨o3, o4, o6, o7, o8, o9, rfl, s5, t5⟩
        rw [List.length_map, List.take_length] at t5
        exact ⟨_, _, _, _, _, _, _, rfl, s5, t5⟩
    · rintro σ H3 ⟨o3, o4, o5, o6, o7, o8, o9, rfl, s3, t3⟩
      rw [List.length_map, List.take_length] at t3
      walk_at "rd"
      exact q D H3 (Same.trans sB s3) nD0 t3
end
end K16
namespace K16
local macro_rules | `(tactic| walk_at "rd") => `(tactic| repeat (first | refine ⟨rfl, ?_⟩ | refine ⟨_, rfl, ?_⟩ | refine ⟨_, _, rfl, rfl, ?_⟩ | refine ⟨⟨_, rfl⟩, ?_⟩))
open PySem PySem.Spec PyProof.Rows L2 Bx TL Dx Zx Ow Dt M16
section
variable {P : Program} {w : World} {K : PySem.W.Frag} {mg : Str → Option Value} {base : Heap}
theorem get_frz {H : Hp} {d t : Addr} {o : Obj} {m : Tab} {k : P2} {v : Int} (h : H d = some (.frz o (.dT (enc m)))) (ht : H t = some (.tup [.str k.1, .str k.2])) (e : look m k = some v) : DGet H d (.ref t) (some (.int v)) := by
  have z : valV (enc m) (key k) = some (.int v) := by rw [enc_val, e]; rfl
  exact .inr ⟨enc m, key k, t, .inr ⟨o, h⟩, rfl, ht, z.symm⟩
theorem sqt_fd {H : Hp} {d a : Addr} {o : Obj} {kvs : List (List Key × V)} {u : HO} {xs : List V} (hd : H d = some (.frz o (.dT kvs))) (h : SqT K H a xs) : SqT K (upd H d u) a xs := by
  rcases h with (h | ⟨z, h⟩) | h
  · exact .inl (.inl (by rw [upd_ne fun e => by rw [e, hd] at h; cases h]; exact h))
  · exact .inl (.inr ⟨z, by rw [upd_ne fun e => by rw [e, hd] at h; cases h]; exact h⟩)
  · exact .inr h
theorem da_fd {H : Hp} {d : Addr} {o : Obj} {kvs : List (List Key × V)} {u : HO} (hd : H d = some (.frz o (.dT kvs))) : ∀ {xs : List V} {l : List Ctr}, DpAll K H xs (l.map ctD) → DpAll K (upd H d u) xs (l.map ctD)
  | xs, [], h => by
    cases h
    exact .nil
  | xs, c :: l, h => by
    cases h with
    | cons h t =>
      obtain ⟨a, rfl, ha⟩ := ct_inv h
      exact .cons (ct_dp (sqt_fd hd ha)) (da_fd hd t)
theorem alike_ct (c e : Ctr) : PySem.W.alike (ctD c) (ctD e) = true := by rfl
@[irreducible] def spRows (K : PySem.W.Frag) : Sp := fun vs H Q _ => ∃ (d : Addr) (m : Tab), vs = [.ref d] ∧ Tb H d m ∧ Nd m ∧ m.length ≤ 2000 ∧ ∀ t zs H', Same H H' → H t = none → SqT K H' t zs → DpAll K H' zs ((rows m).map ctD) → Q (.ref t) H'
theorem ok_normal_rows {f : Addr} {fd : FuncData} (F : Fun K "_normal_rows" "_normal_rows" s__normal_rows f fd) (m_tuple : mg "tuple" = none) (m_sorted : mg "sorted" = none) : FnOk P w K mg base CX0 1 f fd ["sums"] (spRows K) := by
  refine F.ok sc__normal_rows (fun vs H Q E h => ?_) (fun cdv A outer s H vs Q E hr h => ?_)
  · unfold spRows at h
    obtain ⟨d, m, rfl, _⟩ := h
    rfl
  · unfold spRows at h
    obtain ⟨d, m, rfl, hd, nd, hl, q⟩ := h
    have hu := hu_of hr
    refine ⟨_, (pss_one (ps_ret (pe_callTy (T := "tuple") call_tuple_of (by rfl) m_tuple (by decide +kernel) (pa_cons (pe_callB (id := "sorted") (So.cr_sortD (room hr)) (by rfl) m_sorted (by decide +kernel) (pa_cons (pe_lock (pe_lc (own := [("x", 1), ("y", 2)]) rfl sc__normal_rows.nd (pi_keys (pv 0)) (blkOk_by (N := n__normal_rows) (sc := defScope s__normal_rows) (by decide +kernel)) (fun _ _ _ _ _ => pg_tupK (K := K) (n := 2) rfl rfl (pgs_cons (pg_name (i := 1) sc__normal_rows.nd rfl (Or.inl rfl)) (pgs_cons (pg_name (i := 2) sc__normal_rows.nd rfl (Or.inl rfl)) pgs_nil))) (fun _ _ _ _ _ => pts_one (pt_cmpR op_ne (pv 1) (pv 2) (nomark _))) (fun _ _ _ _ _ => (pe_tup (pa_cons (pv 1) (pa_cons (pv 2) (pa_cons (pe_dget hu (pv 0) (pe_tup (pa_cons (pv 1) (pa_cons (pv 2) pa_nil))) (fun _ _ => rfl)) pa_nil))))))) pa_nil)) pa_nil)))), ?_⟩
    walk_at "rd"
    refine ⟨d, .dT (enc m), hd, True.intro, fun od => ?_⟩
    have hlk : (upd H d (.frz od (.dT (enc m)))) d = some (.frz od (.dT (enc m))) := upd_same
    have back : ∀ H', Same (upd H d (.frz od (.dT (enc m)))) H' → Same H (upd H' d (.dT (enc m))) := fun H' s b o e => by
      by_cases hb : b = d
      · rw [hb, upd_same, ← e, hb]
        exact hd.symm
      · rw [upd_ne hb]
        exact s _ _ (by rw [upd_ne hb]; exact e)
    generalize upd H d (.frz od (.dT (enc m))) = HL at *
    walk_at "rd"
    refine ⟨d, od, rfl, .inr ⟨enc m, hlk, fun M nM => ?_⟩⟩
    refine lc_it walk_keysT (fun i H' => ∃ us, H' M = some (.lst us) ∧ DpAll K (mn H' [M]) us (((m.take i).filter fun x : P2 × Int => decide (x.1.1 ≠ x.1.2)).map fun x : P2 × Int => ctD (trp x)) ∧ us.length ≤ i ∧ Same HL H') ⟨[], upd_same, .nil, Nat.le_refl _, same_new nM⟩ (fun i H' _ ⟨_, _, _, _, s⟩ => s _ _ hlk) ?_ ?_
    · rintro i x H1 H2 hi ⟨us, hM, dM, hul, s2⟩ ⟨rfl, k, v, kq, hkv, rfl, hkq⟩
      obtain ⟨x, hx, hkx⟩ : ∃ x, m[i]? = some x ∧ (key x.1, V.int x.2) = (k, v) := by
        unfold enc at hkv
        rw [List.getElem?_map] at hkv
        cases e : m[i]? with
        | none =>
          rw [e] at hkv
          cases hkv
        | some x =>
          rw [e] at hkv
          exact ⟨x, rfl, Option.some.inj hkv⟩
      cases hkx
      have hlk2 := s2 _ _ hlk
      have hkq2 : H2 kq = some (.tup [.str x.1.1, .str x.1.2]) := hkq
      have lk := look_mem nd x (List.mem_of_getElem? hx)
      have him := (List.getElem?_eq_some_iff.mp hx).1
      refine ⟨_, _, rfl, sqt hkq2, rfl, _, _, rfl, _, _, rfl, rfl, rfl, ?_⟩
      walk_at "rd"
      have tk : (m.take (i + 1)).filter (fun x : P2 × Int => decide (x.1.1 ≠ x.1.2)) = (m.take i).filter (fun x : P2 × Int => decide (x.1.1 ≠ x.1.2)) ++ [x].filter (fun x : P2 × Int => decide (x.1.1 ≠ x.1.2)) := by
        rw [List.take_add_one, hx, List.filter_append]
        rfl
      refine ite2 (fun h0 => ?_) (fun h0 => ?_)
      · have hne : x.1.1 ≠ x.1.2 := fun z => ne_t h0 (congrArg V.str z)
        walk_at "rd"
        refine ⟨sz (by show 2 ≤ 100000; decide), fun t nt => ?_⟩
        have st := same_new nt (o := .tup [V.str x.1.1, V.str x.1.2])
        refine ⟨d, _, rfl, get_frz (st _ _ hlk2) upd_same lk, ?_⟩
        walk_at "rd"
        refine ⟨sz (by show 3 ≤ 100000; decide), fun u nu => ?_⟩
        have su := same_new nu (o := .tup [V.str x.1.1, V.str x.1.2, V.int x.2])
        have stu := Same.trans st su
        refine ⟨_, stu _ _ hM, szl (by omega), us ++ [.ref u], upd_same, ?_, by rw [List.length_append]; exact Nat.succ_le_succ hul, same_at nM (Same.trans s2 stu)⟩
        have e1 : [x].filter (fun x : P2 × Int => decide (x.1.1 ≠ x.1.2)) = [x] := List.filter_eq_self.mpr fun y hy => by
          rw [List.mem_singleton.mp hy]
          exact decide_eq_true hne
        rw [mn_upd (S := [M]) List.mem_cons_self, tk, e1, List.map_append]
        refine da_app (dpAll_same (mn_all stu) dM) (da_one (ct_dp (sqt (mn_at ?_ upd_same))))
        exact fun z => ne_of_none (st _ _ hM) nu (List.mem_singleton.mp z).symm
      · have heq : x.1.1 = x.1.2 := V.str.inj (ne_f h0)
        have e1 : [x].filter (fun x : P2 × Int => decide (x.1.1 ≠ x.1.2)) = [] := List.filter_eq_nil_iff.mpr fun y hy => by
          rw [List.mem_singleton.mp hy]
          exact fun z => of_decide_eq_true z heq
        refine ⟨us, hM, ?_, by omega, s2⟩
        rw [tk, e1, List.append_nil]
        exact dM
    · rintro H3 ⟨us, hM, dM, hul, s3⟩
      rw [enc_len, List.take_length] at dM
      rw [enc_len] at hul
      have dM3 := dpAll_same mn_same dM
      refine ⟨s3 _ _ hlk, ?_⟩
      have sB := back H3 s3
      have hMd : M ≠ d := fun e => by rw [e, hlk] at nM; cases nM
      have hM4 : (upd H3 d (.dT (enc m))) M = some (.lst us) := by rw [upd_ne hMd]; exact hM
      have dM4 : DpAll K (upd H3 d (.dT (enc m))) us ((m.filter fun x : P2 × Int => decide (x.1.1 ≠ x.1.2)).map fun x : P2 × Int => ctD (trp x)) := by
        have e : ((m.filter fun x : P2 × Int => decide (x.1.1 ≠ x.1.2)).map fun x : P2 × Int => ctD (trp x)) = (((m.filter fun x : P2 × Int => decide (x.1.1 ≠ x.1.2)).map trp).map ctD) := by
          rw [List.map_map]
          rfl
        rw [e] at dM3 ⊢
        exact da_fd (s3 _ _ hlk) dM3
      have hlen : (m.filter fun x : P2 × Int => decide (x.1.1 ≠ x.1.2)).length ≤ m.length := List.length_filter_le _ _
      generalize upd H3 d (.dT (enc m)) = H4 at *
      walk_at "rd"
      refine ⟨M, us, _, rfl, sq hM4, dM4, PySem.W.AllAlike.of fun b c => alike_ct _ _, PySem.W.Sortable.tuples fun b => ⟨_, _, rfl⟩, sz (by rw [List.length_map]; omega), fun e he => ?_, fun ys p np hy => ?_⟩
      · obtain ⟨x, _, rfl⟩ := List.mem_map.mp he
        show 1 ≤ _
        decide
      · rw [rows_sorted nd] at hy
        have sp := same_new np (o := .lst ys)
        walk_at "rd"
        refine ⟨p, ys, rfl, .inl ⟨sq upd_same, fun t nt => ?_⟩⟩
        have st := same_new nt (o := .tup ys)
        have sF := Same.trans sp st
        exact q t ys _ (Same.trans sB sF) (sB.free (sp.free nt)) (sqt upd_same) (dpAll_same sF hy)
end
end K16
namespace K16
local macro_rules | `(tactic| walk_at "rd") => `(tactic| repeat (first | refine ⟨rfl, ?_⟩ | refine ⟨_, rfl, ?_⟩ | refine ⟨_, _, rfl, rfl, ?_⟩ | refine ⟨⟨_, rfl⟩, ?_⟩))
open PySem PySem.Spec PyProof.Rows L2 Bx TL Dx Zx Ow Dt M16
section
variable {P : Program} {w : World} {K : PySem.W.Frag} {mg : Str → Option Value} {base : Heap}
theorem lk_here {k : Str} {v : V} {r : List (Str × V)} : List.lookup k ((k, v) :: r) = some v := by
  have e : (k == k) = true := beq_self_eq_true k
  simp only [List.lookup, e]
theorem lk_past {k g : Str} {v : V} {r : List (Str × V)} (h : (k == g) = false) : List.lookup k ((g, v) :: r) = List.lookup k r := by
  simp only [List.lookup, h]
theorem put_past {f g : Str} {v x : V} {r : List (Str × V)} (h : ¬ g = f) : putF f v ((g, x) :: r) = (g, x) :: putF f v r := if_neg h
abbrev f1 (th : Addr) : List (Str × V) := [("_theory", .ref th)]
abbrev f2 (th d : Addr) : List (Str × V) := [("_theory", .ref th), ("_greatest", .ref d)]
abbrev f3 (th d : Addr) (b : Bool) : List (Str × V) := [("_theory", .ref th), ("_greatest", .ref d), ("_satisfiable", .bl b)]
abbrev f4 (th d : Addr) (b : Bool) (t : Addr) : List (Str × V) := [("_theory", .ref th), ("_greatest", .ref d), ("_satisfiable", .bl b), ("_rows", .ref t)]
theorem p2 (th d : Addr) : putF "_greatest" (.ref d) (f1 th) = f2 th d := put_past (by decide +kernel)
theorem p3 (th d : Addr) (b : Bool) : putF "_satisfiable" (.bl b) (f2 th d) = f3 th d b := (put_past (by decide +kernel)).trans (congrArg _ (put_past (by decide +kernel)))
theorem p4 (th d : Addr) (b : Bool) (t : Addr) : putF "_rows" (.ref t) (f3 th d b) = f4 th d b t := (put_past (by decide +kernel)).trans (congrArg _ ((put_past (by decide +kernel)).trans (congrArg _ (put_past (by decide +kernel)))))
theorem g2 (th d : Addr) : (f2 th d).lookup ("_greatest" : Str) = some (.ref d) := (lk_past (by decide +kernel)).trans lk_here
theorem g3 (th d : Addr) (b : Bool) : (f3 th d b).lookup ("_greatest" : Str) = some (.ref d) := (lk_past (by decide +kernel)).trans lk_here
theorem s3 (th d : Addr) (b : Bool) : (f3 th d b).lookup ("_satisfiable" : Str) = some (.bl b) := (lk_past (by decide +kernel)).trans ((lk_past (by decide +kernel)).trans lk_here)
theorem t4 (th d : Addr) (b : Bool) (t : Addr) : (f4 th d b t).lookup ("_theory" : Str) = some (.ref th) := lk_here
theorem g4 (th d : Addr) (b : Bool) (t : Addr) : (f4 th d b t).lookup ("_greatest" : Str) = some (.ref d) := (lk_past (by decide +kernel)).trans lk_here
theorem s4 (th d : Addr) (b : Bool) (t : Addr) : (f4 th d b t).lookup ("_satisfiable" : Str) = some (.bl b) := (lk_past (by decide +kernel)).trans ((lk_past (by decide +kernel)).trans lk_here)
theorem r4 (th d : Addr) (b : Bool) (t : Addr) : (f4 th d b t).lookup ("_rows" : Str) = some (.ref t) := (lk_past (by decide +kernel)).trans ((lk_past (by decide +kernel)).trans ((lk_past (by decide +kernel)).trans lk_here))
structure CF (K : PySem.W.Frag) (C : Addr) : Prop where
  cl : Cls K C
  n1 : NoAttr K C "_theory"
  n2 : NoAttr K C "_greatest"
  n3 : NoAttr K C "_satisfiable"
  n4 : NoAttr K C "_rows"
theorem ThAt.same {H H' : Hp} {a : Addr} {ns : List Str} {cs : List Ctr} (s : Same H H') (h : ThAt K H a ns cs) : ThAt K H' a ns cs := by
  obtain ⟨n, c, xs, h1, h2, h3, h4⟩ := h
  exact ⟨n, c, xs, Bx.Same.tup s h1, Bx.Same.tup s h2, Bx.Same.tup s h3, dpAll_same s h4⟩
/-- the object -/
def DifAt (K : PySem.W.Frag) (C : Addr) (H : Hp) (p : Addr) (ns : List Str) (cs : List Ctr) : Prop := ∃ dx th d t zs, H p = some (.ins C dx (f4 th d (satB (pls ns) cs) t)) ∧ ThAt K H th ns cs ∧ Tb H d (sums (pls ns) cs) ∧ SqT K H t zs ∧ DpAll K H zs ((rowsOf (pls ns) cs).map ctD)
theorem DifAt.same {C : Addr} {H H' : Hp} {p : Addr} {ns : List Str} {cs : List Ctr} (s : Same H H') (h : DifAt K C H p ns cs) : DifAt K C H' p ns cs := by
  obtain ⟨dx, th, d, t, zs, h1, h2, h3, h4, h5⟩ := h
  exact ⟨dx, th, d, t, zs, s _ _ h1, h2.same s, s _ _ h3, Bx.Same.tup s h4, dpAll_same s h5⟩
theorem sqt_ins {H : Hp} {p C dx a : Addr} {fs : List (Str × V)} {o : HO} {xs : List V} (hp : H p = some (.ins C dx fs)) (h : SqT K H a xs) : SqT K (upd H p o) a xs := by
  rcases h with (h | ⟨u, h⟩) | h
  · exact .inl (.inl (by rw [upd_ne fun z => by rw [z, hp] at h; cases h]; exact h))
  · exact .inl (.inr ⟨u, by rw [upd_ne fun z => by rw [z, hp] at h; cases h]; exact h⟩)
  · exact .inr h
theorem da_ins {H : Hp} {p C dx : Addr} {fs : List (Str × V)} {o : HO} (hp : H p = some (.ins C dx fs)) : ∀ {xs : List V} {l : List Ctr}, DpAll K H xs (l.map ctD) → DpAll K (upd H p o) xs (l.map ctD)
  | xs, [], h => by
    cases h
    exact .nil
  | xs, c :: l, h => by
    cases h with
    | cons h t =>
      obtain ⟨a, rfl, ha⟩ := ct_inv h
      exact .cons (ct_dp (sqt_ins hp ha)) (da_ins hp t)
theorem ThAt.ins {H : Hp} {p C dx a : Addr} {fs : List (Str × V)} {o : HO} {ns : List Str} {cs : List Ctr} (hp : H p = some (.ins C dx fs)) (h : ThAt K H a ns cs) : ThAt K (upd H p o) a ns cs := by
  obtain ⟨n, c, xs, h1, h2, h3, h4⟩ := h
  exact ⟨n, c, xs, sqt_ins hp h1, sqt_ins hp h2, sqt_ins hp h3, da_ins hp h4⟩
theorem tb_ins {H : Hp} {p C dx d : Addr} {fs : List (Str × V)} {o : HO} {m : Tab} (hp : H p = some (.ins C dx fs)) (h : Tb H d m) : Tb (upd H p o) d m := by
  unfold Tb at h ⊢
  rw [upd_ne fun z => by rw [z, hp] at h; cases h]
  exact h
end
end K16
namespace K16
local macro_rules | `(tactic| walk_at "rd") => `(tactic| repeat (first | refine ⟨rfl, ?_⟩ | refine ⟨_, rfl, ?_⟩ | refine ⟨_, _, rfl, rfl, ?_⟩ | refine ⟨⟨_, rfl⟩, ?_⟩))
open PySem PySem.Spec PyProof.Rows L2 Bx TL Dx Zx Ow Dt M16
section
variable {P : Program} {w : World} {K : PySem.W.Frag} {mg : Str → Option Value} {base : Heap}
theorem sums_len {ps : List Str} {cs : List Ctr} (hl : ps.length ≤ 9) (hc : cs.length ≤ 100) : (sums ps cs).length ≤ 2000 := by
  have h1 := fold_len (c := 1) (f := fun m x => put m (x, x) 0) (fun m x => put_len m (x, x) 0) ps []
  have h2 := fold_len (c := 1) (f := fun m (c : Ctr) => relax m (c.1, c.2.1) c.2.2) (fun m c => relax_len m _ _) cs (begin0 ps)
  have h3 := fold_len (tri3_len hl) ps (ties (begin0 ps) cs)
  have h4 := Nat.mul_le_mul_right 81 hl
  unfold sums
  unfold begin0 at h2 h3 ⊢
  unfold ties at h3 ⊢
  simp only [List.length_nil, Nat.mul_one] at h1 h2
  omega
@[irreducible] def spInit (K : PySem.W.Frag) (C : Addr) : Sp := fun vs H Q _ => ∃ (p dx th : Addr) (ns : List Str) (cs : List Ctr), vs = [.ref p, .ref th] ∧ H p = some (.ins C dx []) ∧ ThAt K H th ns cs ∧ ns.length ≤ 8 ∧ cs.length ≤ 100 ∧ ∀ H', DifAt K C H' p ns cs → SameBut p H H' → Q .non H'
theorem ok_init {C : Addr} (cf : CF K C) {f : Addr} {fd : FuncData} (F : Fun K "__init__" "Differences.__init__" s_Differences___init__ f fd) (m_all : mg "all" = none) (C__least_sums : Cal P w K mg base "_least_sums" 1 ["places", "constraints"] (spSums K)) (C__normal_rows : Cal P w K mg base "_normal_rows" 1 ["sums"] (spRows K)) :
    FnOk P w K mg base CX0 2 f fd ["self", "theory"] (spInit K C) := by
  refine F.ok sc_Differences___init__ (fun vs H Q E h => ?_) (fun cdv A outer s H vs Q E hr h => ?_)
  · unfold spInit at h
    obtain ⟨p, dx, th, ns, cs, rfl, _⟩ := h
    rfl
  · unfold spInit at h
    obtain ⟨p, dx, th, ns, cs, rfl, hp, hT, hnl, hcl, q⟩ := h
    have hu := hu_of hr
    have hps : (pls ns).length ≤ 9 := by
      show ns.length + 1 ≤ 9
      omega
    obtain ⟨na, ca, xs, ha, hn, hc, hd⟩ := id hT
    refine ⟨_, (pss_cons (ps_asg (pv 1) (pg_tup rfl (pgs_cons (pg_name (i := 2) sc_Differences___init__.nd rfl (Or.inl rfl)) (pgs_cons (pg_name (i := 3) sc_Differences___init__.nd rfl (Or.inl rfl)) pgs_nil))))
    (pss_cons (ps_fld (pv 0) (pv 1) rfl)
    (pss_cons (ps_fld (pv 0) (pe_cal C__least_sums (hr.mono (by decide)) (pa_cons (pe_lst (pa_cons pe_str (StX.pa_star (pv 2) pa_nil))) (pa_cons (pv 3) pa_nil))) rfl)
    (pss_cons (ps_fld (pv 0) (pe_callB (id := "all") (cr_all rfl) (by rfl) m_all (by decide +kernel) (pa_cons (pe_lc (own := [("x", 4)]) (tt := tYes) rfl sc_Differences___init__.nd (pi_list (pe_lst (pa_cons pe_str (StX.pa_star (pv 2) pa_nil)))) (blkOk_by (N := n_Differences___init__) (sc := defScope s_Differences___init__) (by decide +kernel)) (fun _ _ _ _ _ => pg_name (i := 4) sc_Differences___init__.nd rfl (Or.inl rfl)) (fun _ _ _ _ _ => pts_nil) (fun _ _ _ _ _ => (pe_cmpR op_ge (pe_dget hu (pe_fldK (K := K) rfl (pv 0) rfl) (pe_tup (pa_cons (pv 4) (pa_cons (pv 4) pa_nil))) (fun _ _ => rfl)) pe_int (nomark _)))) pa_nil)) rfl)
    (pss_one (ps_fld (pv 0) (pe_ifExp (pt_val (pe_fld (pv 0) rfl)) (pe_cal C__normal_rows (hr.mono (by decide)) (pa_cons (pe_fld (pv 0) rfl) pa_nil)) (pe_tup (pa_cons (pe_tup (pa_cons pe_str (pa_cons pe_str (pa_cons (pe_un un_neg pe_int) pa_nil)))) pa_nil))) rfl)))))), ?_⟩
    walk_at "rd"
    refine ⟨_, _, rfl, ha, rfl, _, _, rfl, _, _, rfl, rfl, ?_⟩
    walk_at "rd"
    refine ⟨p, C, dx, _, rfl, hp, cf.cl, cf.n1, by decide, ?_⟩
    have hp1 : (upd H p (.ins C dx (putF "_theory" (.ref th) []))) p = some (.ins C dx (f1 th)) := upd_same
    have b1 : SameBut p H (upd H p (.ins C dx (putF "_theory" (.ref th) []))) := SameBut.upd
    have hT1 : ThAt K (upd H p (.ins C dx (putF "_theory" (.ref th) []))) th ns cs := hT.ins hp
    have hn1 : SqT K (upd H p (.ins C dx (putF "_theory" (.ref th) []))) na (ns.map V.str) := sqt_ins hp hn
    have hc1 : SqT K (upd H p (.ins C dx (putF "_theory" (.ref th) []))) ca xs := sqt_ins hp hc
    have hd1 : DpAll K (upd H p (.ins C dx (putF "_theory" (.ref th) []))) xs (cs.map ctD) := da_ins hp hd
    generalize upd H p (.ins C dx (putF "_theory" (.ref th) [])) = H1 at *
    walk_at "rd"
    refine ⟨na, _, rfl, .inl hn1, ?_⟩
    refine ⟨sz (by rw [List.append_nil]; show (ns.map V.str).length + 1 ≤ 100000; rw [List.length_map]; omega), fun L nL => ?_⟩
    rw [List.append_nil]
    have sL := same_new nL (o := .lst ((pls ns).map V.str))
    walk_at "rd"
    unfold spSums
    refine ⟨L, ca, pls ns, xs, cs, rfl, sq upd_same, Bx.Same.tup sL hc1, dpAll_same sL hd1, hps, hcl, fun d H2 s2 nd tb => ?_⟩
    have s12 := Same.trans sL s2
    have hp2 := s12 _ _ hp1
    walk_at "rd"
    refine ⟨p, C, dx, _, rfl, hp2, cf.cl, cf.n2, by show 1 < 1000; decide, ?_⟩
    rw [p2]
    have hp3 : (upd H2 p (.ins C dx (f2 th d))) p = some (.ins C dx (f2 th d)) := upd_same
    have b3 : SameBut p H1 (upd H2 p (.ins C dx (f2 th d))) := fun b o n e => by
      rw [upd_ne n]
      exact s12 _ _ e
    have hT3 : ThAt K (upd H2 p (.ins C dx (f2 th d))) th ns cs := (hT1.same s12).ins hp2
    have tb3 := tb_ins (o := .ins C dx (f2 th d)) hp2 tb
    have hn3 := sqt_ins (o := .ins C dx (f2 th d)) hp2 (Bx.Same.tup s12 hn1)
    generalize upd H2 p (.ins C dx (f2 th d)) = H3 at *
    walk_at "rd"
    refine ⟨na, _, rfl, .inl hn3, ?_⟩
    refine ⟨sz (by rw [List.append_nil]; show (ns.map V.str).length + 1 ≤ 100000; rw [List.length_map]; omega), fun L2 nL2 => ?_⟩
    rw [List.append_nil]
    have sL2 := same_new nL2 (o := .lst ((pls ns).map V.str))
    walk_at "rd"
    refine ⟨⟨_, sq upd_same⟩, fun M nM => ?_⟩
    have tbL : Tb (upd H3 L2 (.lst (V.str (Str.ofString "") :: ns.map V.str))) d (sums (pls ns) cs) := sL2 _ _ tb3
    have hpL : (upd H3 L2 (.lst (V.str (Str.ofString "") :: ns.map V.str))) p = some (.ins C dx (f2 th d)) := sL2 _ _ hp3
    have hLL : (upd H3 L2 (.lst (V.str (Str.ofString "") :: ns.map V.str))) L2 = some (.lst ((pls ns).map V.str)) := upd_same
    have sL2 : Same H3 (upd H3 L2 (.lst (V.str (Str.ofString "") :: ns.map V.str))) := sL2
    generalize upd H3 L2 (.lst (V.str (Str.ofString "") :: ns.map V.str)) = H4 at *
    refine lc_it walk_list (fun i H' => Same H4 H' ∧ H' M = some (.lst (((pls ns).take i).map fun x => V.bl (decide (0 ≤ getI (sums (pls ns) cs) x))))) ⟨same_new nM, upd_same⟩ (fun i H' _ h => sq (h.1 _ _ hLL)) ?_ ?_
    · rintro i x H5 H6 hi ⟨s5, hM⟩ ⟨rfl, hx⟩
      obtain ⟨n, hn2, rfl⟩ := at_map (l := pls ns) hx
      obtain ⟨v, hv⟩ := sums_has (cs := cs) (List.mem_of_getElem? hn2)
      have hil := (List.getElem?_eq_some_iff.mp hn2).1
      refine ⟨rfl, ?_⟩
      walk_at "rd"
      refine ⟨p, C, dx, _, _, rfl, s5 _ _ hpL, cf.cl, cf.n2, g2 th d, ?_⟩
      walk_at "rd"
      refine ⟨sz (by show 2 ≤ 100000; decide), fun t nt => ?_⟩
      have st := same_new nt (o := .tup [V.str n, V.str n])
      refine ⟨d, _, rfl, get_some (k := (n, n)) (st _ _ (s5 _ _ tbL)) upd_same hv, ?_⟩
      walk_at "rd"
      have eg : getI (sums (pls ns) cs) n = v := by
        unfold getI
        rw [hv]
        rfl
      refine ⟨_, st _ _ hM, ?_, same_at nM (Same.trans s5 st), ?_⟩
      · rw [List.length_map, List.length_take]
        exact szl (by omega)
      · rw [upd_same, List.take_add_one, hn2, List.map_append]
        show some (HO.lst (_ ++ [V.bl (decide (0 ≤ v))])) = some (HO.lst (_ ++ [V.bl (decide (0 ≤ getI (sums (pls ns) cs) n))]))
        rw [eg]
    rintro H5 ⟨s5, hM⟩
    have el : ((pls ns).map V.str).length = (pls ns).length := List.length_map _
    rw [el, List.take_length] at hM
    walk_at "rd"
    refine ⟨M, (pls ns).map (fun x => decide (0 ≤ getI (sums (pls ns) cs) x)), rfl, sq (by rw [hM, List.map_map]; rfl), ?_⟩
    have eb : (((pls ns).map fun x => decide (0 ≤ getI (sums (pls ns) cs) x)).all id) = satB (pls ns) cs := by
      unfold satB
      rw [List.all_map]
      rfl
    rw [eb]
    have hp5 := s5 _ _ hpL
    walk_at "rd"
    refine ⟨p, C, dx, _, rfl, hp5, cf.cl, cf.n3, by show 2 < 1000; decide, ?_⟩
    rw [p3]
    have s35 : Same H3 H5 := Same.trans sL2 s5
    have hp6 : (upd H5 p (.ins C dx (f3 th d (satB (pls ns) cs)))) p = some (.ins C dx (f3 th d (satB (pls ns) cs))) := upd_same
    have b6 : SameBut p H3 (upd H5 p (.ins C dx (f3 th d (satB (pls ns) cs)))) := fun b o n e => by
      rw [upd_ne n]
      exact s35 _ _ e
    have hT6 : ThAt K (upd H5 p (.ins C dx (f3 th d (satB (pls ns) cs)))) th ns cs := (hT3.same s35).ins hp5
    have tb6 : Tb (upd H5 p (.ins C dx (f3 th d (satB (pls ns) cs)))) d (sums (pls ns) cs) := tb_ins hp5 (s35 _ _ tb3)
    generalize upd H5 p (.ins C dx (f3 th d (satB (pls ns) cs))) = H6 at *
    have fin : ∀ t zs H7, Same H6 H7 → SqT K H7 t zs → DpAll K H7 zs ((rowsOf (pls ns) cs).map ctD) → Q .non (upd H7 p (.ins C dx (f4 th d (satB (pls ns) cs) t))) := fun t zs H7 s7 h7 d7 => by
      have hp7 := s7 _ _ hp6
      refine q _ ⟨dx, th, d, t, zs, upd_same, (hT6.same s7).ins hp7, tb_ins hp7 (s7 _ _ tb6), sqt_ins hp7 h7, da_ins hp7 d7⟩ fun b o n e => ?_
      rw [upd_ne n]
      exact s7 _ _ (b6 _ _ n (b3 _ _ n (b1 _ _ n e)))
    walk_at "rd"
    refine ⟨p, C, dx, _, _, rfl, hp6, cf.cl, cf.n3, K16.s3 th d _, ?_⟩
    refine ⟨_, rfl, ite2 (fun h0 => ?_) (fun h0 => ?_)⟩
    · walk_at "rd"
      refine ⟨p, C, dx, _, _, rfl, hp6, cf.cl, cf.n2, g3 th d _, ?_⟩
      walk_at "rd"
      unfold spRows
      refine ⟨d, _, rfl, tb6, nd_sums _ _, sums_len hps hcl, fun t zs H7 s7 nt h7 d7 => ?_⟩
      walk_at "rd"
      refine ⟨p, C, dx, _, rfl, s7 _ _ hp6, cf.cl, cf.n4, by show 3 < 1000; decide, ?_⟩
      rw [p4]
      refine fin t zs H7 s7 h7 ?_
      unfold M16.rowsOf
      rw [if_pos h0]
      exact d7
    · walk_at "rd"
      refine ⟨sz (by show 3 ≤ 100000; decide), fun t1 nt1 => ?_⟩
      have st1 := same_new nt1 (o := .tup [V.str (Str.ofString ""), V.str (Str.ofString ""), V.int (-1)])
      walk_at "rd"
      refine ⟨sz (by show 1 ≤ 100000; decide), fun t2 nt2 => ?_⟩
      have st2 := same_new nt2 (o := .tup [V.ref t1])
      walk_at "rd"
      have s7 := Same.trans st1 st2
      refine ⟨p, C, dx, _, rfl, s7 _ _ hp6, cf.cl, cf.n4, by show 3 < 1000; decide, ?_⟩
      rw [p4]
      refine fin t2 [.ref t1] _ s7 (sqt upd_same) ?_
      unfold M16.rowsOf
      rw [if_neg h0]
      exact da_one (ct_dp (sqt (st2 _ _ upd_same)))
end
end K16
namespace K16
local macro_rules | `(tactic| walk_at "rd") => `(tactic| repeat (first | refine ⟨rfl, ?_⟩ | refine ⟨_, rfl, ?_⟩ | refine ⟨_, _, rfl, rfl, ?_⟩ | refine ⟨⟨_, rfl⟩, ?_⟩))
open PySem PySem.Spec PyProof.Rows L2 Bx TL Dx Zx Ow Dt M16
section
variable {P : Program} {w : World} {K : PySem.W.Frag} {mg : Str → Option Value} {base : Heap}
@[irreducible] def spLen (K : PySem.W.Frag) (C : Addr) : Sp := fun vs H Q _ => ∃ (p : Addr) (ns : List Str) (cs : List Ctr), vs = [.ref p] ∧ DifAt K C H p ns cs ∧ Q (.int ((M16.rowsOf (pls ns) cs).length : Nat)) H
theorem ok_len {C : Addr} (cf : CF K C) {f : Addr} {fd : FuncData} (F : Fun K "__len__" "Differences.__len__" s_Differences___len__ f fd) (m_len : mg "len" = none) : FnOk P w K mg base CX0 1 f fd ["self"] (spLen K C) := by
  refine F.ok sc_Differences___len__ (fun vs H Q E h => ?_) (fun cdv A outer s H vs Q E hr h => ?_)
  · unfold spLen at h
    obtain ⟨p, ns, cs, rfl, _⟩ := h
    rfl
  · unfold spLen at h
    obtain ⟨p, ns, cs, rfl, ⟨dx, th, d, t, zs, h1, h2, h3, h4, h5⟩, q⟩ := h
    refine ⟨_, (pss_one (ps_ret (pe_callB call_len_seq (by rfl) m_len PySem.boot_len (pa_cons (pe_fld (pv 0) rfl) pa_nil)))), ?_⟩
    walk_at "rd"
    refine ⟨p, C, dx, _, _, rfl, h1, cf.cl, cf.n4, r4 th d _ t, ?_⟩
    walk_at "rd"
    refine ⟨_, _, rfl, .inr h4, ?_⟩
    have e : zs.length = (M16.rowsOf (pls ns) cs).length := by rw [da_len h5, List.length_map]
    rw [e]
    exact q
@[irreducible] def spSat (K : PySem.W.Frag) (C : Addr) : Sp := fun vs H Q _ => ∃ (p : Addr) (ns : List Str) (cs : List Ctr), vs = [.ref p] ∧ DifAt K C H p ns cs ∧ Q (.bl (satB (pls ns) cs)) H
theorem ok_sat {C : Addr} (cf : CF K C) {f : Addr} {fd : FuncData} (F : Fun K "satisfiable" "Differences.satisfiable" s_Differences_satisfiable f fd) : FnOk P w K mg base CX0 1 f fd ["self"] (spSat K C) := by
  refine F.ok sc_Differences_satisfiable (fun vs H Q E h => ?_) (fun cdv A outer s H vs Q E hr h => ?_)
  · unfold spSat at h
    obtain ⟨p, ns, cs, rfl, _⟩ := h
    rfl
  · unfold spSat at h
    obtain ⟨p, ns, cs, rfl, ⟨dx, th, d, t, zs, h1, h2, h3, h4, h5⟩, q⟩ := h
    refine ⟨_, (pss_one (ps_ret (pe_fld (pv 0) rfl))), ?_⟩
    walk_at "rd"
    exact ⟨p, C, dx, _, _, rfl, h1, cf.cl, cf.n3, K16.s4 th d _ t, q⟩
theorem it_mk {C : Addr} (cf : CF K C) {f : Addr} {fd : FuncData} (F : Fun K "__iter__" "Differences.__iter__" s_Differences___iter__ f fd) (m_iter : mg "iter" = none) (hfi : PySem.W.findIn K (.ref C) "__iter__" = some (some (.ref f))) (hf : PySem.W.isFn K (.ref f) = true) (hb : Binds K fd ["self"] []) : ItM P w K mg base C "_rows" 1 := by
  obtain ⟨oc, od, kV, doc, pm, an, cdv, ct, osl, rfl, lk, hcd⟩ := F.ex
  refine ⟨f, hfi, hf, fun A outer s H E p dx t fs zs hr e0 hp hl hz => ?_⟩
  refine run_here (us := [.ref p]) (vs := [.ref p]) (ps := ["self"]) (k := 0) lk hcd sc_Differences___iter__ hr e0 ?_ (.cons rfl .nil) rfl fun hr0 => ?_
  · exact hb s [.ref p] (e0.mod.kin.keeps (fun a b z => (e0.bs a b z).1)) rfl
  · refine ⟨_, PSs.nox ((pss_one (ps_ret (pe_callB (id := "iter") call_iterT (by rfl) m_iter (by decide +kernel) (pa_cons (pe_fld (pv 0) rfl) pa_nil))))), ?_⟩
    walk_at "rd"
    refine ⟨p, C, dx, fs, _, rfl, hp, cf.cl, cf.n4, hl, ?_⟩
    walk_at "rd"
    refine ⟨t, zs, rfl, hz, fun it n1 hy => ?_⟩
    exact ⟨it, rfl, n1, hy, rfl⟩
/-- what `(x, y, c) in o` answers -/
def inB (ns : List Str) (cs : List Ctr) (c : Ctr) : Bool := if satB (pls ns) cs = true then (match look (sums (pls ns) cs) (c.1, c.2.1) with | some v => decide (v ≤ c.2.2) | none => false) else true
@[irreducible] def spCont (K : PySem.W.Frag) (C : Addr) : Sp := fun vs H Q _ => ∃ (p a : Addr) (ns : List Str) (cs : List Ctr) (c : Ctr), vs = [.ref p, .ref a] ∧ DifAt K C H p ns cs ∧ SqT K H a [.str c.1, .str c.2.1, .int c.2.2] ∧ ∀ H', Same H H' → Q (.bl (inB ns cs c)) H'
theorem ok_cont {C : Addr} (cf : CF K C) {f : Addr} {fd : FuncData} (F : Fun K "__contains__" "Differences.__contains__" s_Differences___contains__ f fd) : FnOk P w K mg base CX0 1 f fd ["self", "x"] (spCont K C) := by
  refine F.ok sc_Differences___contains__ (fun vs H Q E h => ?_) (fun cdv A outer s H vs Q E hr h => ?_)
  · unfold spCont at h
    obtain ⟨p, a, ns, cs, c, rfl, _⟩ := h
    rfl
  · unfold spCont at h
    obtain ⟨p, a, ns, cs, c, rfl, ⟨dx, th, d, t, zs, h1, h2, h3, h4, h5⟩, ha, q⟩ := h
    have hu := hu_of hr
    refine ⟨_, (pss_cons (ps_asg (pv 1) (pg_tup rfl (pgs_cons (pg_name (i := 3) sc_Differences___contains__.nd rfl (Or.inl rfl)) (pgs_cons (pg_name (i := 4) sc_Differences___contains__.nd rfl (Or.inl rfl)) (pgs_cons (pg_name (i := 5) sc_Differences___contains__.nd rfl (Or.inl rfl)) pgs_nil)))))
    (pss_cons (ps_if (pt_not (pt_val (pe_fld (pv 0) rfl)))
      (pss_one (ps_ret pe_bl))
      pss_nil)
    (pss_cons (ps_set (i := 2) sc_Differences___contains__.nd rfl (Or.inl rfl) (pe_dget1 hu (pe_fld (pv 0) rfl) (pe_tup (pa_cons (pv 3) (pa_cons (pv 4) pa_nil))) ⟨rfl, rfl, rfl, rfl⟩))
    (pss_one (ps_ret (pe_and (pe_cmpR op_notN (pv 2) pe_non (nomark _)) (pe_one (pe_cmpR op_le (pv 2) (pv 5) (nomark _))))))))), ?_⟩
    walk_at "rd"
    refine ⟨_, _, rfl, ha, rfl, _, _, rfl, _, _, rfl, _, _, rfl, rfl, ?_⟩
    walk_at "rd"
    refine ⟨p, C, dx, _, _, rfl, h1, cf.cl, cf.n3, K16.s4 th d _ t, ?_⟩
    have e0 : ∀ b : Bool, satB (pls ns) cs = b → inB ns cs c = if b = true then (match look (sums (pls ns) cs) (c.1, c.2.1) with | some v => decide (v ≤ c.2.2) | none => false) else true := fun b e => by
      unfold inB
      rw [e]
    cases eb : satB (pls ns) cs with
    | false =>
      have z := q H (Same.refl H)
      rw [e0 _ eb] at z
      walk_at "rd"
      exact z
    | true =>
      rw [e0 _ eb] at q
      walk_at "rd"
      refine ⟨p, C, dx, _, _, rfl, h1, cf.cl, cf.n2, by rw [eb]; exact g4 th d _ t, ?_⟩
      refine ⟨d, rfl, .inr ⟨_, .inl h3⟩, ?_⟩
      walk_at "rd"
      refine ⟨sz (by show 2 ≤ 100000; decide), fun u nu => ?_⟩
      have su := same_new nu (o := .tup [V.str c.1, V.str c.2.1])
      refine ⟨_, get_at (k := (c.1, c.2.1)) (su _ _ h3) upd_same, ?_⟩
      have z := q _ su
      cases e : look (sums (pls ns) cs) (c.1, c.2.1) with
      | none =>
        rw [e] at z
        walk_at "rd"
        exact z
      | some v =>
        rw [e] at z
        walk_at "rd"
        exact z
@[irreducible] def spAdd (K : PySem.W.Frag) (C : Addr) : Sp := fun vs H Q _ => ∃ (p a : Addr) (ns : List Str) (cs : List Ctr) (c : Ctr), vs = [.ref p, .ref a] ∧ DifAt K C H p ns cs ∧ SqT K H a [.str c.1, .str c.2.1, .int c.2.2] ∧ ns.length ≤ 8 ∧ cs.length ≤ 90 ∧ ∀ x H', Same H H' → H x = none → DifAt K C H' x ns (cs ++ [c]) → Q (.ref x) H'
theorem init_of {C : Addr} {H : Hp} {th : Addr} {ns : List Str} {cs : List Ctr} {R : VK} {E : XK} {x dx : Addr} (nx : H x = none) (nd : H dx = none) (hT : ThAt K H th ns cs) (hn : ns.length ≤ 8) (hc : cs.length ≤ 100) (q : ∀ H', Same H H' → DifAt K C H' x ns cs → R .non H') :
    spInit K C [.ref x, .ref th] (upd (upd H dx (.own x)) x (.ins C dx [])) R E := by
  have s1 : Same H (upd (upd H dx (.own x)) x (.ins C dx [])) := fun b o e => by
    rw [upd_ne (ne_of_none e nx), upd_ne (ne_of_none e nd)]
    exact e
  unfold spInit
  exact ⟨x, dx, th, ns, cs, rfl, upd_same, hT.same s1, hn, hc, fun H' hs sb => q H' (fun b o e => sb b o (ne_of_none e nx) (s1 b o e)) hs⟩
abbrev MkD (P : Program) (w : World) (K : PySem.W.Frag) (mg : Str → Option Value) (base : Heap) (C : Addr) : Prop := MakC P w K mg base "Differences" C 2 ["self", "theory"] (spInit K C) []
theorem ok_add {C : Addr} (cf : CF K C) {f : Addr} {fd : FuncData} (F : Fun K "__add__" "Differences.__add__" s_Differences___add__ f fd) (K_D : MkD P w K mg base C) : FnOk P w K mg base CX0 4 f fd ["self", "other"] (spAdd K C) := by
  refine F.ok sc_Differences___add__ (fun vs H Q E h => ?_) (fun cdv A outer s H vs Q E hr h => ?_)
  · unfold spAdd at h
    obtain ⟨p, a, ns, cs, c, rfl, _⟩ := h
    rfl
  · unfold spAdd at h
    obtain ⟨p, a, ns, cs, c, rfl, ⟨dx, th, d, t, zs, h1, ⟨na, ca, xs, ht, hn, hc, hd⟩, h3, h4, h5⟩, ha, hnl, hcl, q⟩ := h
    have hxl : xs.length = cs.length := by rw [da_len hd, List.length_map]
    refine ⟨_, (pss_cons (ps_asg (pe_fld (pv 0) rfl) (pg_tup rfl (pgs_cons (pg_name (i := 2) sc_Differences___add__.nd rfl (Or.inl rfl)) (pgs_cons (pg_name (i := 3) sc_Differences___add__.nd rfl (Or.inl rfl)) pgs_nil))))
    (pss_one (ps_ret (pe_mak K_D (hr.mono (by decide)) (pa_cons (pe_tup (pa_cons (pv 2) (pa_cons (pe_tup (StX.pa_star (pv 3) (pa_cons (pv 1) pa_nil))) pa_nil))) pa_nil))))), ?_⟩
    walk_at "rd"
    refine ⟨p, C, dx, _, _, rfl, h1, cf.cl, cf.n1, t4 th d _ t, ?_⟩
    refine ⟨_, _, rfl, ht, rfl, _, _, rfl, _, _, rfl, rfl, ?_⟩
    walk_at "rd"
    refine ⟨ca, xs, rfl, .inl hc, ?_⟩
    walk_at "rd"
    refine ⟨sz (by rw [List.length_append]; show xs.length + 1 ≤ 100000; omega), fun u nu => ?_⟩
    have su := same_new nu (o := .tup (xs ++ [.ref a]))
    walk_at "rd"
    refine ⟨sz (by show 2 ≤ 100000; decide), fun v nv => ?_⟩
    have sv := same_new nv (o := .tup [.ref na, .ref u])
    have suv := Same.trans su sv
    have hT : ThAt K (upd (upd H u (.tup (xs ++ [.ref a]))) v (.tup [.ref na, .ref u])) v ns (cs ++ [c]) := by
      refine ⟨na, u, xs ++ [.ref a], sqt upd_same, Bx.Same.tup suv hn, sqt (sv _ _ upd_same), ?_⟩
      rw [List.map_append]
      exact da_app (dpAll_same suv hd) (da_one (ct_dp (Bx.Same.tup suv ha)))
    walk_at "rd"
    intro x dx2 nx nd _
    refine init_of nx nd hT hnl (by rw [List.length_append]; show cs.length + 1 ≤ 100; omega) fun H' s' hD => ⟨rfl, ?_⟩
    exact q x H' (Same.trans suv s') (suv.free nx) hD
end
end K16
namespace K16
local macro_rules | `(tactic| walk_at "rd") => `(tactic| repeat (first | refine ⟨rfl, ?_⟩ | refine ⟨_, rfl, ?_⟩ | refine ⟨_, _, rfl, rfl, ?_⟩ | refine ⟨⟨_, rfl⟩, ?_⟩))
open PySem PySem.Spec PyProof.Rows L2 Bx TL Dx Zx Ow Dt M16
section
variable {P : Program} {w : World} {K : PySem.W.Frag} {mg : Str → Option Value} {base : Heap}
/-- the error class at CF, what the top leaves of it -/
structure ErN (K : PySem.W.Frag) (mg : Str → Option Value) (CF : Addr) : Prop where
  gF : mg "NoSolution" = some (.ref CF)
  xF : PySem.W.excIn K CF [.type "ValueError", .type "Exception", .type "BaseException", .type "object"] "ValueError.__new__" = true
  kF : PySem.W.keepIn K (.ref CF) = true
  bF : PySem.W.subIn K (.ref CF) (.type "BaseException") = some true
  tF : PySem.W.typeIn K (.ref CF) = some (.type "type")
def nonOf : Option Int → V
  | some v => .int v
  | none => .non
@[irreducible] def spGet (K : PySem.W.Frag) (C CF : Addr) : Sp := fun vs H Q E => ∃ (p a : Addr) (ns : List Str) (cs : List Ctr) (x y : Str), vs = [.ref p, .ref a] ∧ DifAt K C H p ns cs ∧ SqT K H a [.str x, .str y] ∧
  (satB (pls ns) cs = false → E (.ref CF) none H) ∧ (satB (pls ns) cs = true → ∀ H', Same H H' → Q (nonOf (look (sums (pls ns) cs) (x, y))) H')
theorem ok_get {C CF : Addr} (cf : K16.CF K C) (er : ErN K mg CF) {f : Addr} {fd : FuncData} (F : Fun K "__getitem__" "Differences.__getitem__" s_Differences___getitem__ f fd) : FnOk P w K mg base (L2.CX P w) 1 f fd ["self", "at"] (spGet K C CF) := by
  refine F.okX sc_Differences___getitem__ (fun vs H Q E h => ?_) (fun cdv A outer s H vs Q E hr h => ?_)
  · unfold spGet at h
    obtain ⟨p, a, ns, cs, x, y, rfl, _⟩ := h
    rfl
  · unfold spGet at h
    obtain ⟨p, a, ns, cs, x, y, rfl, ⟨dx, th, d, t, zs, h1, h2, h3, h4, h5⟩, ha, qe, q⟩ := h
    have hu := hu_of hr
    refine ⟨_, (pss_cons (ps_asg (pv 1) (pg_tup rfl (pgs_cons (pg_name (i := 2) sc_Differences___getitem__.nd rfl (Or.inl rfl)) (pgs_cons (pg_name (i := 3) sc_Differences___getitem__.nd rfl (Or.inl rfl)) pgs_nil))))
    (pss_cons (ps_if (pt_not (pt_val (pe_fld (pv 0) rfl)))
      (pss_one (ps_raise rfl (takes_of rfl rfl rfl rfl) (pmk_own PySem.F.excBase_ValueError er.xF er.gF er.kF (raises_own er.bF er.tF) (by exact rfl))))
      pss_nil)
    (pss_one (ps_ret (pe_dget1 hu (pe_fld (pv 0) rfl) (pe_tup (pa_cons (pv 2) (pa_cons (pv 3) pa_nil))) ⟨rfl, rfl, rfl, rfl⟩))))), ?_⟩
    walk_at "rd"
    refine ⟨_, _, rfl, ha, rfl, _, _, rfl, _, _, rfl, rfl, ?_⟩
    walk_at "rd"
    refine ⟨p, C, dx, _, _, rfl, h1, cf.cl, cf.n3, K16.s4 th d _ t, ?_⟩
    cases eb : satB (pls ns) cs with
    | false =>
      walk_at "rd"
      exact qe eb
    | true =>
      walk_at "rd"
      refine ⟨p, C, dx, _, _, rfl, h1, cf.cl, cf.n2, by rw [eb]; exact g4 th d _ t, ?_⟩
      refine ⟨d, rfl, .inr ⟨_, .inl h3⟩, ?_⟩
      walk_at "rd"
      refine ⟨sz (by show 2 ≤ 100000; decide), fun u nu => ?_⟩
      have su := same_new nu (o := .tup [V.str x, V.str y])
      refine ⟨_, get_at (k := (x, y)) (su _ _ h3) upd_same, ?_⟩
      have z := q eb _ su
      cases e : look (sums (pls ns) cs) (x, y) with
      | none =>
        rw [e] at z
        exact z
      | some v =>
        rw [e] at z
        exact z
end
end K16
namespace K16
local macro_rules | `(tactic| walk_at "rd") => `(tactic| repeat (first | refine ⟨rfl, ?_⟩ | refine ⟨_, rfl, ?_⟩ | refine ⟨_, _, rfl, rfl, ?_⟩ | refine ⟨⟨_, rfl⟩, ?_⟩))
open PySem PySem.Spec PyProof.Rows L2 Bx TL Dx Zx Ow Dt M16
section
variable {P : Program} {w : World} {K : PySem.W.Frag} {mg : Str → Option Value} {base : Heap}
/-! ### the law's own: draws -/
theorem int_at {ns : List Int} {k : Nat} (h : k < ns.length) : atI (ns.map V.int) (k : Int) = some (V.int ns[k]) := atI_nat (by rw [List.getElem?_map, List.getElem?_eq_getElem h]; rfl)
def spSource (K : PySem.W.Frag) : Sp := fun vs H Q _ => ∃ (a : Addr) (ns : List Int) (k : Nat), vs = [.ref a, .int (k : Int)] ∧ SqL K H a (ns.map V.int) ∧ k ≤ 100 ∧ ∀ p n c, H p = none → Q (.ref p) (upd H p (.lst [.int n, .int c]))
theorem ok_source {f : Addr} {fd : FuncData} (F : Fun K "_law_source" "_law_source" s__law_source f fd) (m_len : mg "len" = none) (m_int : mg "int" = none) : FnOk P w K mg base CX0 1 f fd ["_law_script", "_law_k"] (spSource K) := by
  refine F.ok sc__law_source (fun vs H Q E h => ?_) (fun cdv A outer s H vs Q E hr h => ?_)
  · obtain ⟨a, ns, k, rfl, _⟩ := h
    rfl
  · obtain ⟨a, ns, k, rfl, hS, hk, q⟩ := h
    refine ⟨_, (pss_cons (ps_set (i := 2) sc__law_source.nd rfl (Or.inl rfl) pe_int)
    (pss_cons (ps_if (pt_cmpR op_lt (pv 1) (pe_callB call_len_seq (by rfl) m_len PySem.boot_len (pa_cons (pv 0) pa_nil)) (nomark _))
      (pss_one (ps_set (i := 2) sc__law_source.nd rfl (Or.inl rfl) (pe_callTy (T := "int") call_int1 (by rfl) m_int (by decide +kernel) (pa_cons (pe_ix ix_list (pv 0) (pv 1) (fun _ _ => rfl)) pa_nil))))
      pss_nil)
    (pss_one (ps_ret (pe_lst (pa_cons (pv 2) (pa_cons (pe_op op_add (pe_op op_mul pe_int (pv 1)) (pe_callB call_len_seq (by rfl) m_len PySem.boot_len (pa_cons (pv 0) pa_nil))) pa_nil))))))), ?_⟩
    walk_at "rd"
    refine ⟨_, _, rfl, .inl hS, ?_⟩
    walk_at "rd"
    refine ite2 (fun h0 => ?_) (fun h0 => ?_)
    · have h1 : (k : Int) < ((ns.map V.int).length : Nat) := of_decide_eq_true h0
      rw [List.length_map] at h1
      walk_at "rd"
      refine ⟨_, _, _, _, rfl, rfl, hS, int_at (k := k) (by omega), ?_⟩
      refine .inl ⟨_, rfl, ?_⟩
      walk_at "rd"
      refine ⟨.inr ⟨by omega, by omega⟩, ?_⟩
      walk_at "rd"
      refine ⟨_, _, rfl, .inl hS, ?_⟩
      walk_at "rd"
      exact ⟨sz (by show 2 ≤ 100000; decide), fun p np => q p _ _ np⟩
    · walk_at "rd"
      refine ⟨.inr ⟨by omega, by omega⟩, ?_⟩
      walk_at "rd"
      refine ⟨_, _, rfl, .inl hS, ?_⟩
      walk_at "rd"
      exact ⟨sz (by show 2 ≤ 100000; decide), fun p np => q p _ _ np⟩
theorem modb (x : Int) {k : Int} (h : 0 < k) (h2 : k ≤ 2 ^ 64) : -(2 ^ 64) < x % k ∧ x % k < 2 ^ 64 := by
  have a := Int.emod_nonneg x (show k ≠ 0 by omega)
  have b := Int.emod_lt_of_pos x h
  omega
@[irreducible] def spDraw : Sp := fun vs H Q _ => ∃ (a : Addr) (n c lim : Int), vs = [.ref a, .int lim] ∧ H a = some (.lst [.int n, .int c]) ∧ 0 < lim ∧ lim < 1073741824 ∧ ∀ r n' c', 0 ≤ r → r < lim → Q (.int r) (upd H a (.lst [.int n', .int c']))
theorem ok_draw {f : Addr} {fd : FuncData} (F : Fun K "_law_draw" "_law_draw" s__law_draw f fd) (m_int : mg "int" = none) : FnOk P w K mg base CX0 1 f fd ["_law_source_here", "_law_limit"] spDraw := by
  refine F.ok sc__law_draw (fun vs H Q E h => ?_) (fun cdv A outer s H vs Q E hr h => ?_)
  · unfold spDraw at h
    obtain ⟨a, n, c, lim, rfl, _⟩ := h
    rfl
  · unfold spDraw at h
    obtain ⟨a, n, c, lim, rfl, hA, h0, h1, q⟩ := h
    have hfm : ∀ x : Int, 0 ≤ x.fmod lim ∧ x.fmod lim < lim := fun x => by
      rw [Int.fmod_eq_emod_of_nonneg _ (by omega)]
      exact ⟨Int.emod_nonneg _ (by omega), Int.emod_lt_of_pos _ h0⟩
    refine ⟨_, (pss_cons (ps_set (i := 2) sc__law_draw.nd rfl (Or.inl rfl) (pe_ix ix_list (pv 0) pe_int (fun _ _ => rfl)))
    (pss_cons (ps_if (pt_cmpR op_ge (pv 2) (pe_op op_pow pe_int pe_int) (nomark _))
      (pss_cons (ps_asg (pe_op op_fdivN (pv 2) (pv 1)) (pg_sub (pv 0) pe_int set_list))
    (pss_one (ps_ret (pe_op op_modN (pe_callTy (T := "int") call_int1 (by rfl) m_int (by decide +kernel) (pa_cons (pv 2) pa_nil)) (pv 1)))))
      pss_nil)
    (pss_cons (ps_asg (pe_op op_add (pe_ix ix_list (pv 0) pe_int (fun _ _ => rfl)) pe_int) (pg_sub (pv 0) pe_int set_list))
    (pss_cons (ps_set (i := 3) sc__law_draw.nd rfl (Or.inl rfl) (pe_op op_mod (pe_callTy (T := "int") call_int1 (by rfl) m_int (by decide +kernel) (pa_cons (pe_op op_add (pe_op op_add (pe_op op_mul (pv 2) pe_int) (pe_op op_mul (pe_ix ix_list (pv 0) pe_int (fun _ _ => rfl)) pe_int)) pe_int) pa_nil)) pe_int))
    (pss_cons (ps_set (i := 3) sc__law_draw.nd rfl (Or.inl rfl) (pe_op op_mod (pe_callTy (T := "int") call_int1 (by rfl) m_int (by decide +kernel) (pa_cons (pe_op op_add (pe_op op_add (pe_op op_mul (pv 3) (pv 3)) (pv 2)) (pe_op op_mul (pe_ix ix_list (pv 0) pe_int (fun _ _ => rfl)) pe_int)) pa_nil)) pe_int))
    (pss_cons (ps_set (i := 3) sc__law_draw.nd rfl (Or.inl rfl) (pe_op op_mod (pe_callTy (T := "int") call_int1 (by rfl) m_int (by decide +kernel) (pa_cons (pe_op op_add (pe_op op_add (pe_op op_mul (pv 3) (pv 3)) (pe_op op_fdiv (pv 3) pe_int)) pe_int) pa_nil)) pe_int))
    (pss_one (ps_ret (pe_op op_modN (pe_op op_fdiv (pe_callTy (T := "int") call_int1 (by rfl) m_int (by decide +kernel) (pa_cons (pv 3) pa_nil)) pe_int) (pv 1)))))))))), ?_⟩
    walk_at "rd"
    refine ⟨_, _, _, _, rfl, rfl, sq hA, atI_nat (j := 0) rfl, ?_⟩
    walk_at "rd"
    refine ⟨⟨by decide, by decide, by decide⟩, ?_⟩
    walk_at "rd"
    refine ite2 (fun hb => ?_) (fun hb => ?_)
    · walk_at "rd"
      refine ⟨⟨by omega, by omega⟩, ?_⟩
      walk_at "rd"
      refine ⟨_, _, _, 0, rfl, rfl, hA, rfl, ?_⟩
      walk_at "rd"
      refine .inl ⟨_, rfl, ?_⟩
      walk_at "rd"
      refine ⟨by omega, ?_⟩
      exact q _ _ _ (hfm _).1 (hfm _).2
    · walk_at "rd"
      refine ⟨_, _, _, _, rfl, rfl, sq hA, atI_nat (j := 1) rfl, ?_⟩
      walk_at "rd"
      refine ⟨_, _, _, 1, rfl, rfl, hA, rfl, ?_⟩
      -- the first mixing
      walk_at "rd"
      refine ⟨.inr ⟨by decide, by decide⟩, ?_⟩
      walk_at "rd"
      refine ⟨_, _, _, _, rfl, rfl, sq upd_same, atI_nat (j := 1) rfl, ?_⟩
      walk_at "rd"
      refine ⟨.inr ⟨by decide, by decide⟩, ?_⟩
      walk_at "rd"
      refine .inl ⟨_, rfl, ?_⟩
      walk_at "rd"
      refine ⟨by show (0 : Int) < 2147483647; decide, ?_⟩
      -- the second
      walk_at "rd"
      refine ⟨.inl (modb _ (by decide) (by decide)), ?_⟩
      walk_at "rd"
      refine ⟨_, _, _, _, rfl, rfl, sq upd_same, atI_nat (j := 1) rfl, ?_⟩
      walk_at "rd"
      refine ⟨.inr ⟨by decide, by decide⟩, ?_⟩
      walk_at "rd"
      refine .inl ⟨_, rfl, ?_⟩
      walk_at "rd"
      refine ⟨by show (0 : Int) < 2147483629; decide, ?_⟩
      -- the third
      walk_at "rd"
      refine ⟨.inl (modb _ (by decide) (by decide)), ?_⟩
      walk_at "rd"
      refine ⟨⟨by decide, by decide⟩, ?_⟩
      walk_at "rd"
      refine .inl ⟨_, rfl, ?_⟩
      walk_at "rd"
      refine ⟨by show (0 : Int) < 2147483587; decide, ?_⟩
      -- the answer
      walk_at "rd"
      refine .inl ⟨_, rfl, ?_⟩
      walk_at "rd"
      refine ⟨⟨by decide, by decide⟩, ?_⟩
      walk_at "rd"
      refine ⟨by omega, ?_⟩
      exact q _ _ _ (hfm _).1 (hfm _).2
/-- some other source, or none -/
theorem draw_of {H : Hp} {a : Addr} {lim : Int} {Q : VK} {E : XK} (hA : Src H a) (h0 : 0 < lim ∧ lim < 1073741824) (q : ∀ r H', 0 ≤ r → r < lim → SameBut a H H' → Src H' a → Q (.int r) H') : spDraw [.ref a, .int lim] H Q E := by
  obtain ⟨n, c, hA⟩ := hA
  unfold spDraw
  exact ⟨a, n, c, lim, rfl, hA, h0.1, h0.2, fun r n' c' h1 h2 => q r _ h1 h2 SameBut.upd ⟨n', c', upd_same⟩⟩


abbrev CDraw (P : Program) (w : World) (K : PySem.W.Frag) (mg : Str → Option Value) (base : Heap) : Prop := Cal P w K mg base "_law_draw" 1 ["_law_source_here", "_law_limit"] spDraw
@[irreducible] def spSome (K : PySem.W.Frag) : Sp := fun vs H Q _ => ∃ (s a : Addr) (ns : List Str) (k : Int), vs = [.ref s, .ref a, .int k] ∧ Src H s ∧ a ≠ s ∧ H a = some (.lst (ns.map V.str)) ∧ ns.length ≤ 20 ∧ k ≤ 8 ∧ ∀ r (ms : List Str) H', SameBut s H H' → Src H' s → H r = none → H' r = some (.lst (ms.map V.str)) → ms.length ≤ 8 → (∀ x ∈ ms, x ∈ ns) → Q (.ref r) H'
theorem ok_some {f : Addr} {fd : FuncData} (F : Fun K "_law_some" "_law_some" s__law_some f fd) (m_len : mg "len" = none) (C__law_draw : CDraw P w K mg base) : FnOk P w K mg base CX0 2 f fd ["_law_source_here", "_law_names", "_law_most"] (spSome K) := by
  refine F.ok sc__law_some (fun vs H Q E h => ?_) (fun cdv A outer s H vs Q E hr h => ?_)
  · unfold spSome at h
    obtain ⟨s, a, ns, k, rfl, _⟩ := h
    rfl
  · unfold spSome at h
    obtain ⟨src, a, ns, k, rfl, hA, nas, ha, hnl, hk, q⟩ := h
    refine ⟨_, (pss_cons (ps_set (i := 3) sc__law_some.nd rfl (Or.inl rfl) (pe_lst pa_nil))
    (pss_cons (ps_for PassesOwn.never rfl (pi_list (pv 1)) (pg_name (i := 4) sc__law_some.nd rfl (Or.inl rfl))
      (pss_one (ps_if (PW.pt (pw_and (pt_cmpR op_lt (pe_callB call_len_seq (by rfl) m_len PySem.boot_len (pa_cons (pv 3) pa_nil)) (pv 2) (nomark _)) (pw_and1 (pt_cmpR op_gt (pe_cal C__law_draw (hr.mono (by decide)) (pa_cons (pv 0) (pa_cons pe_int pa_nil))) pe_int (nomark _)))))
      (pss_one (ps_expr (pe_bm PySem.F.plainAttrs_list PySem.F.slot_list_append PySem.F.type_list_append mt_append (pv 3) (pa_cons (pv 4) pa_nil))))
      pss_nil)))
    (pss_one (ps_ret (pv 3))))), ?_⟩
    walk_at "rd"
    refine ⟨sz (by decide), fun l nl => ?_⟩
    have nls : l ≠ src := (src_ne hA nl).symm
    have nal : a ≠ l := fun e => by rw [e, nl] at ha; cases ha
    walk_at "rd"
    refine ⟨⟨_, sq (by rw [upd_ne nal]; exact ha)⟩, for_it walk_list (fun i σ H' => ∃ (o4 : Option V) (ms : List Str), σ = [some (.ref src), some (.ref a), some (.int k), some (.ref l), o4] ∧ SameBut src H H' ∧ Src H' src ∧ H' l = some (.lst (ms.map V.str)) ∧ (∀ x ∈ ms, x ∈ ns) ∧ (ms.length = 0 ∨ (ms.length : Int) ≤ k)) ⟨none, [], rfl, Bx.Same.but (same_new nl), src_upd hA nls.symm, upd_same, (fun x hx => nomatch hx), .inl rfl⟩ (fun i σ H' _ ⟨_, _, _, s, _⟩ => sq (s _ _ nas ha)) ?_ ?_⟩
    · rintro i x σ H1 H2 hi ⟨o4, ms, rfl, s1, hA1, hl, hm, hml⟩ ⟨rfl, hx⟩
      obtain ⟨n, hn, rfl⟩ := at_map hx
      walk_at "rd"
      refine ⟨_, _, rfl, .inl (sq hl), ?_⟩
      walk_at "rd"
      refine ite2 (fun h0 => ?_) (fun h0 => ?_)
      · have h1 : ((ms.map V.str).length : Int) < k := of_decide_eq_true h0
        rw [List.length_map] at h1
        walk_at "rd"
        refine draw_of hA1 ⟨by decide, by decide⟩ fun d H3 _ _ s3 hA3 => ?_
        have hl3 := s3 _ _ nls hl
        walk_at "rd"
        refine ite2 (fun _ => ?_) (fun _ => ?_)
        · walk_at "rd"
          refine ⟨.inl ⟨rfl, _, sq hl3⟩, ?_⟩
          walk_at "rd"
          refine ⟨l, _, _, rfl, rfl, hl3, szl (by rw [List.length_map]; omega), ?_⟩
          refine ⟨_, ms ++ [n], rfl, but_at nl (s1.trans s3), src_upd hA3 nls.symm, by rw [upd_same, List.map_append]; rfl, fun x hx => ?_, .inr (by rw [List.length_append]; show ((ms.length + 1 : Nat) : Int) ≤ k; omega)⟩
          rcases List.mem_append.mp hx with hx | hx
          · exact hm x hx
          · rw [List.mem_singleton.mp hx]
            exact List.mem_of_getElem? hn
        · walk_at "rd"
          exact ⟨_, ms, rfl, s1.trans s3, hA3, hl3, hm, hml⟩
      · walk_at "rd"
        exact ⟨_, ms, rfl, s1, hA1, hl, hm, hml⟩
    · rintro σ H1 ⟨o4, ms, rfl, s1, hA1, hl, hm, hml⟩
      walk_at "rd"
      exact q l ms H1 s1 hA1 nl hl (by omega) hm
@[irreducible] def spBound : Sp := fun vs H Q _ => ∃ s : Addr, vs = [.ref s] ∧ Src H s ∧ ∀ (c : Int) H', SameBut s H H' → Src H' s → Q (.int c) H'
theorem ok_bound {f : Addr} {fd : FuncData} (F : Fun K "_law_bound" "_law_bound" s__law_bound f fd) (C__law_draw : CDraw P w K mg base) : FnOk P w K mg base CX0 2 f fd ["_law_source_here"] spBound := by
  refine F.ok sc__law_bound (fun vs H Q E h => ?_) (fun cdv A outer s H vs Q E hr h => ?_)
  · unfold spBound at h
    obtain ⟨s, rfl, _⟩ := h
    rfl
  · unfold spBound at h
    obtain ⟨src, rfl, hA, q⟩ := h
    refine ⟨_, (pss_cons (ps_if (pt_cmpR op_eq (pe_cal C__law_draw (hr.mono (by decide)) (pa_cons (pv 0) (pa_cons pe_int pa_nil))) pe_int (nomark _))
      (pss_one (ps_ret (pe_op op_sub (pe_cal C__law_draw (hr.mono (by decide)) (pa_cons (pv 0) (pa_cons pe_int pa_nil))) pe_int)))
      pss_nil)
    (pss_one (ps_ret (pe_op op_sub (pe_cal C__law_draw (hr.mono (by decide)) (pa_cons (pv 0) (pa_cons pe_int pa_nil))) pe_int)))), ?_⟩
    walk_at "rd"
    refine draw_of hA ⟨by decide, by decide⟩ fun d H1 _ _ s1 hA1 => ?_
    walk_at "rd"
    refine ite2 (fun _ => ?_) (fun _ => ?_)
    · walk_at "rd"
      refine draw_of hA1 ⟨by decide, by decide⟩ fun d H2 _ _ s2 hA2 => ?_
      walk_at "rd"
      exact q _ H2 (s1.trans s2) hA2
    · walk_at "rd"
      refine draw_of hA1 ⟨by decide, by decide⟩ fun d H2 _ _ s2 hA2 => ?_
      walk_at "rd"
      exact q _ H2 (s1.trans s2) hA2
/-- names, as a list or a tuple, that draws do not touch -/
def NmAt (K : PySem.W.Frag) (H : Hp) (s a : Addr) (ns : List Str) : Prop := (a ≠ s ∧ H a = some (.lst (ns.map V.str))) ∨ SqT K H a (ns.map V.str)
@[irreducible] def spCtr (K : PySem.W.Frag) : Sp := fun vs H Q _ => ∃ (s a : Addr) (ns : List Str), vs = [.ref s, .ref a] ∧ Src H s ∧ NmAt K H s a ns ∧ ns.length ≤ 8 ∧ ∀ p (c : Ctr) H', SameBut s H H' → Src H' s → H p = none → H' p = some (.tup [.str c.1, .str c.2.1, .int c.2.2]) → c.1 ∈ pls ns → c.2.1 ∈ pls ns → Q (.ref p) H'
theorem ok_constraint {f : Addr} {fd : FuncData} (F : Fun K "_law_constraint" "_law_constraint" s__law_constraint f fd) (m_list : mg "list" = none) (m_len : mg "len" = none) (C__law_draw : CDraw P w K mg base) (C__law_bound : Cal P w K mg base "_law_bound" 2 ["_law_source_here"] spBound) : FnOk P w K mg base CX0 3 f fd ["_law_source_here", "_law_names"] (spCtr K) := by
  refine F.ok sc__law_constraint (fun vs H Q E h => ?_) (fun cdv A outer s H vs Q E hr h => ?_)
  · unfold spCtr at h
    obtain ⟨s, a, ns, rfl, _⟩ := h
    rfl
  · unfold spCtr at h
    obtain ⟨src, a, ns, rfl, hA, hN, hnl, q⟩ := h
    refine ⟨_, (pss_cons (ps_set (i := 2) sc__law_constraint.nd rfl (Or.inl rfl) (pe_op op_cat (pe_lst (pa_cons pe_str pa_nil)) (pe_callTy (T := "list") call_list_of (by rfl) m_list (by decide +kernel) (pa_cons (pv 1) pa_nil))))
    (pss_cons (ps_set (i := 3) sc__law_constraint.nd rfl (Or.inl rfl) (pe_ix ix_list (pv 2) (pe_cal C__law_draw (hr.mono (by decide)) (pa_cons (pv 0) (pa_cons (pe_callB call_len_seq (by rfl) m_len PySem.boot_len (pa_cons (pv 2) pa_nil)) pa_nil))) (fun _ _ => rfl)))
    (pss_cons (ps_set (i := 4) sc__law_constraint.nd rfl (Or.inl rfl) (pe_ix ix_list (pv 2) (pe_cal C__law_draw (hr.mono (by decide)) (pa_cons (pv 0) (pa_cons (pe_callB call_len_seq (by rfl) m_len PySem.boot_len (pa_cons (pv 2) pa_nil)) pa_nil))) (fun _ _ => rfl)))
    (pss_cons (ps_if (PW.pt (pw_and (pt_cmpR op_eq (pv 3) (pv 4) (nomark _)) (pw_and1 (pt_cmpR op_ne (pv 3) pe_str (nomark _)))))
      (pss_one (ps_set (i := 4) sc__law_constraint.nd rfl (Or.inl rfl) pe_str))
      pss_nil)
    (pss_one (ps_ret (pe_tup (pa_cons (pv 3) (pa_cons (pv 4) (pa_cons (pe_cal C__law_bound (hr.mono (by decide)) (pa_cons (pv 0) pa_nil)) pa_nil)))))))))), ?_⟩
    walk_at "rd"
    refine ⟨sz (by show 1 ≤ 100000; decide), fun L0 nL0 => ?_⟩
    have s0 := same_new nL0 (o := .lst [V.str (Str.ofString "")])
    walk_at "rd"
    refine ⟨a, _, rfl, hN.imp (fun h => sq (s0 _ _ h.2)) (Bx.Same.tup s0), fun L1 nL1 => ?_⟩
    have s1 := same_new nL1 (o := .lst (ns.map V.str))
    refine ⟨L0, L1, _, _, rfl, rfl, s1 _ _ upd_same, upd_same, sz (by rw [List.length_map]; show 1 + ns.length ≤ 100000; omega), fun L nL => ?_⟩
    have s2 := same_new nL (o := .lst ([V.str (Str.ofString "")] ++ ns.map V.str))
    have sB := Same.trans s0 (Same.trans s1 s2)
    have hL : (upd (upd (upd H L0 (.lst [V.str (Str.ofString "")])) L1 (.lst (ns.map V.str))) L (.lst ([V.str (Str.ofString "")] ++ ns.map V.str))) L = some (.lst ((pls ns).map V.str)) := upd_same
    have nL0' : H L = none := (Same.trans s0 s1).free nL
    generalize upd (upd (upd H L0 (.lst [V.str (Str.ofString "")])) L1 (.lst (ns.map V.str))) L (.lst ([V.str (Str.ofString "")] ++ ns.map V.str)) = HB at *
    have nLs : L ≠ src := (src_ne hA nL0').symm
    have hAB := src_same hA sB
    have hpl : (pls ns).length = ns.length + 1 := rfl
    have elt : ∀ r : Int, 0 ≤ r → r < ((pls ns).map V.str).length → ∃ x : Str, x ∈ pls ns ∧ atI ((pls ns).map V.str) r = some (.str x) := fun r r0 r1 => by
      obtain ⟨n, rfl⟩ := Int.eq_ofNat_of_zero_le r0
      rw [List.length_map] at r1
      have hn : n < (pls ns).length := by omega
      exact ⟨(pls ns)[n], List.getElem_mem hn, atI_nat (by rw [List.getElem?_map, List.getElem?_eq_getElem hn]; rfl)⟩
    have hlen : (0 : Int) < ((pls ns).map V.str).length ∧ (((pls ns).map V.str).length : Int) < 1073741824 := by
      rw [List.length_map]
      omega
    walk_at "rd"
    refine ⟨_, _, rfl, .inl (sq hL), ?_⟩
    refine draw_of hAB hlen fun r H1 r0 r1 sA hA1 => ?_
    have hL1 := sA _ _ nLs hL
    obtain ⟨x, hx, ax⟩ := elt r r0 r1
    refine ⟨_, _, _, _, rfl, rfl, sq hL1, ax, ?_⟩
    walk_at "rd"
    refine ⟨_, _, rfl, .inl (sq hL1), ?_⟩
    refine draw_of hA1 hlen fun r' H2 r0' r1' sA2 hA2 => ?_
    have hL2 := sA2 _ _ nLs hL1
    obtain ⟨y, hy, ay⟩ := elt r' r0' r1'
    refine ⟨_, _, _, _, rfl, rfl, sq hL2, ay, ?_⟩
    have sT : SameBut src H H2 := (Bx.Same.but sB).trans (sA.trans sA2)
    walk_at "rd"
    have fin : ∀ z : Str, z ∈ pls ns → tRet (tTup (tCons (tVar 3) (tCons (tVar 4) (tCons (tCal spBound (tCons (tVar 0) tNil)) tNil)))) { nx := fun _ H' => Q V.non H', rt := Q } [some (.ref src), some (.ref a), some (.ref L), some (.str x), some (.str z)] H2 := by
      intro z hz
      walk_at "rd"
      unfold spBound
      refine ⟨src, rfl, hA2, fun c H3 s3 hA3 => ?_⟩
      walk_at "rd"
      refine ⟨sz (by show 3 ≤ 100000; decide), fun p np => ?_⟩
      have nps : p ≠ src := (src_ne hA3 np).symm
      have npH : H p = none := but_free (sT.trans s3) nps np
      exact q p (x, z, c) _ (but_at npH (sT.trans s3)) (src_upd hA3 nps.symm) npH upd_same hx hz
    refine ite2 (fun he => ?_) (fun he => ?_)
    · walk_at "rd"
      refine ite2 (fun h1 => ?_) (fun h1 => ?_)
      · exact fin (Str.ofString "") (List.mem_cons_self ..)
      · exact fin y hy
    · refine ite2 (fun h => absurd h (by decide)) (fun _ => ?_)
      exact fin y hy
end
end K16
namespace K16
local macro_rules | `(tactic| walk_at "rd") => `(tactic| repeat (first | refine ⟨rfl, ?_⟩ | refine ⟨_, rfl, ?_⟩ | refine ⟨_, _, rfl, rfl, ?_⟩ | refine ⟨⟨_, rfl⟩, ?_⟩))
open PySem PySem.Spec PyProof.Rows L2 Bx TL Dx Zx Ow Dt M16
section
variable {P : Program} {w : World} {K : PySem.W.Frag} {mg : Str → Option Value} {base : Heap}
/-- constraints as three fields each, over the places of `ns` -/
def InPl (ns : List Str) (cs : List Ctr) : Prop := ∀ c ∈ cs, c.1 ∈ pls ns ∧ c.2.1 ∈ pls ns
theorem sqt_but {H H' : Hp} {s a : Addr} {xs : List V} (hs : Src H s) (sb : SameBut s H H') (h : SqT K H a xs) : SqT K H' a xs := by
  obtain ⟨n, c, hs⟩ := hs
  rcases h with (h | ⟨u, h⟩) | h
  · exact .inl (.inl (sb _ _ (fun z => by rw [z, hs] at h; cases h) h))
  · exact .inl (.inr ⟨u, sb _ _ (fun z => by rw [z, hs] at h; cases h) h⟩)
  · exact .inr h
theorem da_but {H H' : Hp} {s : Addr} (hs : Src H s) (sb : SameBut s H H') : ∀ {xs : List V} {l : List Ctr}, DpAll K H xs (l.map ctD) → DpAll K H' xs (l.map ctD)
  | xs, [], h => by
    cases h
    exact .nil
  | xs, c :: l, h => by
    cases h with
    | cons h t =>
      obtain ⟨a, rfl, ha⟩ := ct_inv h
      exact .cons (ct_dp (sqt_but hs sb ha)) (da_but hs sb t)
theorem ThAt.but {H H' : Hp} {s a : Addr} {ns : List Str} {cs : List Ctr} (hs : Src H s) (sb : SameBut s H H') (h : ThAt K H a ns cs) : ThAt K H' a ns cs := by
  obtain ⟨n, c, xs, h1, h2, h3, h4⟩ := h
  exact ⟨n, c, xs, sqt_but hs sb h1, sqt_but hs sb h2, sqt_but hs sb h3, da_but hs sb h4⟩
theorem sqt_lst {H : Hp} {l a : Addr} {ys : List V} {o : HO} {xs : List V} (hp : H l = some (.lst ys)) (h : SqT K H a xs) : SqT K (upd H l o) a xs := by
  rcases h with (h | ⟨u, h⟩) | h
  · exact .inl (.inl (by rw [upd_ne fun z => by rw [z, hp] at h; cases h]; exact h))
  · exact .inl (.inr ⟨u, by rw [upd_ne fun z => by rw [z, hp] at h; cases h]; exact h⟩)
  · exact .inr h
theorem da_lst {H : Hp} {l : Addr} {ys : List V} {o : HO} (hp : H l = some (.lst ys)) : ∀ {xs : List V} {cs : List Ctr}, DpAll K H xs (cs.map ctD) → DpAll K (upd H l o) xs (cs.map ctD)
  | xs, [], h => by
    cases h
    exact .nil
  | xs, c :: cs, h => by
    cases h with
    | cons h t =>
      obtain ⟨a, rfl, ha⟩ := ct_inv h
      exact .cons (ct_dp (sqt_lst hp ha)) (da_lst hp t)
theorem ThAt.lst {H : Hp} {l a : Addr} {ys : List V} {o : HO} {ns : List Str} {cs : List Ctr} (hp : H l = some (.lst ys)) (h : ThAt K H a ns cs) : ThAt K (upd H l o) a ns cs := by
  obtain ⟨n, c, xs, h1, h2, h3, h4⟩ := h
  exact ⟨n, c, xs, sqt_lst hp h1, sqt_lst hp h2, sqt_lst hp h3, da_lst hp h4⟩
theorem DifAt.lst {H : Hp} {C l p : Addr} {ys : List V} {o : HO} {ns : List Str} {cs : List Ctr} (hp : H l = some (.lst ys)) (h : DifAt K C H p ns cs) : DifAt K C (upd H l o) p ns cs := by
  obtain ⟨dx, th, d, t, zs, h1, h2, h3, h4, h5⟩ := h
  exact ⟨dx, th, d, t, zs, by rw [upd_ne fun z => by rw [z, hp] at h1; cases h1]; exact h1, h2.lst hp, by unfold Tb; rw [upd_ne fun z => by rw [z] at h3; unfold Tb at h3; rw [hp] at h3; cases h3]; exact h3, sqt_lst hp h4, da_lst hp h5⟩
theorem da_snoc {H : Hp} : ∀ {xs : List V} {cs : List Ctr} {v : V} {c : Ctr}, DpAll K H xs (cs.map ctD) → Dp K H v (ctD c) → DpAll K H (xs ++ [v]) ((cs ++ [c]).map ctD)
  | xs, [], v, c, h, hv => by
    cases h
    exact .cons hv .nil
  | xs, d :: cs, v, c, h, hv => by
    cases h with
    | cons h t => exact .cons h (da_snoc t hv)
theorem cut_map (ns : List Str) (lo hi : Option Int) : ∃ ms : List Str, cutV (ns.map V.str) lo hi = ms.map V.str ∧ ms.length ≤ ns.length ∧ ∀ x ∈ ms, x ∈ ns := by
  unfold cutV
  rw [List.length_map, ← List.map_drop, ← List.map_take]
  refine ⟨_, rfl, ?_, fun x hx => List.mem_of_mem_drop (List.mem_of_mem_take hx)⟩
  rw [List.length_take, List.length_drop]
  omega
abbrev pool8 : List Str := [Str.ofString "a", Str.ofString "a1", Str.ofString "b", Str.ofString "b.c", Str.ofString "c", Str.ofString "d", Str.ofString "x9", Str.ofString "zz"]
@[irreducible] def spTheory (K : PySem.W.Frag) : Sp := fun vs H Q _ => ∃ s : Addr, vs = [.ref s] ∧ Src H s ∧ ∀ p (ns : List Str) (cs : List Ctr) H', SameBut s H H' → Src H' s → ThAt K H' p ns cs → ns.length ≤ 8 → cs.length ≤ 8 → InPl ns cs → (∀ n ∈ ns, n ∈ pool8) → Q (.ref p) H'
theorem ok_theory {f : Addr} {fd : FuncData} (F : Fun K "_law_theory" "_law_theory" s__law_theory f fd) (m_range : mg "range" = none) (m_tuple : mg "tuple" = none) (C__law_draw : CDraw P w K mg base) (C__law_some : Cal P w K mg base "_law_some" 2 ["_law_source_here", "_law_names", "_law_most"] (spSome K)) (C__law_constraint : Cal P w K mg base "_law_constraint" 3 ["_law_source_here", "_law_names"] (spCtr K)) : FnOk P w K mg base CX0 4 f fd ["_law_source_here"] (spTheory K) := by
  refine F.ok sc__law_theory (fun vs H Q E h => ?_) (fun cdv A outer s H vs Q E hr h => ?_)
  · unfold spTheory at h
    obtain ⟨s, rfl, _⟩ := h
    rfl
  · unfold spTheory at h
    obtain ⟨src, rfl, hA, q⟩ := h
    refine ⟨_, (pss_cons (ps_set (i := 1) sc__law_theory.nd rfl (Or.inl rfl) (pe_lst (pa_cons pe_str (pa_cons pe_str (pa_cons pe_str (pa_cons pe_str (pa_cons pe_str (pa_cons pe_str (pa_cons pe_str (pa_cons pe_str pa_nil))))))))))
    (pss_cons (ps_set (i := 2) sc__law_theory.nd rfl (Or.inl rfl) (pe_cal C__law_some (hr.mono (by decide)) (pa_cons (pv 0) (pa_cons (pe_slice sl_list (pv 1) (po_some (pe_cal C__law_draw (hr.mono (by decide)) (pa_cons (pv 0) (pa_cons pe_int pa_nil)))) po_none) (pa_cons (pe_cal C__law_draw (hr.mono (by decide)) (pa_cons (pv 0) (pa_cons pe_int pa_nil))) pa_nil)))))
    (pss_cons (ps_set (i := 3) sc__law_theory.nd rfl (Or.inl rfl) (pe_lst pa_nil))
    (pss_cons (ps_for PassesOwn.never rfl (pi_range1 (by rfl) m_range (pa_cons (pe_cal C__law_draw (hr.mono (by decide)) (pa_cons (pv 0) (pa_cons pe_int pa_nil))) pa_nil)) (pg_name (i := 4) sc__law_theory.nd rfl (Or.inl rfl))
      (pss_one (ps_expr (pe_bm PySem.F.plainAttrs_list PySem.F.slot_list_append PySem.F.type_list_append mt_append (pv 3) (pa_cons (pe_cal C__law_constraint (hr.mono (by decide)) (pa_cons (pv 0) (pa_cons (pv 2) pa_nil))) pa_nil)))))
    (pss_one (ps_ret (pe_tup (pa_cons (pe_callTy (T := "tuple") call_tuple_of (by rfl) m_tuple (by decide +kernel) (pa_cons (pv 2) pa_nil)) (pa_cons (pe_callTy (T := "tuple") call_tuple_of (by rfl) m_tuple (by decide +kernel) (pa_cons (pv 3) pa_nil)) pa_nil))))))))), ?_⟩
    walk_at "rd"
    refine ⟨sz (by decide), fun L0 n0 => ?_⟩
    have nL0s := src_ne hA n0
    have s0 := same_new n0 (o := .lst (pool8.map V.str))
    have hl0 := upd_same (H := H) (a := L0) (o := .lst (pool8.map V.str))
    have hA0 := src_same hA s0
    walk_at "rd"
    refine draw_of hA0 ⟨by decide, by decide⟩ fun r H1 r0 r1 s1 hA1 => ?_
    have hl1 := s1 _ _ nL0s.symm hl0
    obtain ⟨ms, hms, hml, hmm⟩ := cut_map pool8 (some r) none
    refine ⟨r, rfl, L0, _, rfl, sq hl1, fun L1 n1 => ?_⟩
    rw [hms]
    have nL1s := src_ne hA1 n1
    walk_at "rd"
    refine draw_of (src_upd hA1 nL1s) ⟨by decide, by decide⟩ fun k H2 k0 k1 s2 hA2 => ?_
    have hl2 := s2 _ _ nL1s.symm upd_same
    show spSome K _ _ _ _
    unfold spSome
    refine ⟨src, L1, ms, k, rfl, hA2, nL1s.symm, hl2, (by have : pool8.length = 8 := rfl; omega), by omega, fun N ns H3 s3 hA3 nN hN hnl hnm => ?_⟩
    have s13 : SameBut src H H3 := (Bx.Same.but s0).trans (s1.trans ((but_new n1 s2).trans s3))
    walk_at "rd"
    refine ⟨sz (by decide), fun L nL => ?_⟩
    have nLs := src_ne hA3 nL
    have nNs : N ≠ src := fun e => by rw [e] at nN; exact (src_ne hA2 nN) rfl
    have nNL : N ≠ L := fun e => by rw [e, nL] at hN; cases hN
    walk_at "rd"
    refine draw_of (src_upd hA3 nLs) ⟨by decide, by decide⟩ fun n H4 n0 n1' s4 hA4 => ?_
    have hL4 := s4 _ _ nLs.symm upd_same
    have hN4 : H4 N = some (.lst (ns.map V.str)) := s4 _ _ nNs (by rw [upd_ne nNL]; exact hN)
    have s14 : SameBut src H H4 := s13.trans (but_new nL s4)
    obtain ⟨nn, rfl⟩ := Int.eq_ofNat_of_zero_le n0
    refine ⟨_, rfl, by omega, by omega, for_it walk_range (fun i σ H' => ∃ (o4 : Option V) (xs : List V) (cs : List Ctr), σ = [some (.ref src), some (.ref L0), some (.ref N), some (.ref L), o4] ∧ SameBut src H H' ∧ Src H' src ∧ H' L = some (.lst xs) ∧ H' N = some (.lst (ns.map V.str)) ∧ DpAll K H' xs (cs.map ctD) ∧ cs.length = i ∧ InPl ns cs)
      ⟨none, [], [], rfl, s14, hA4, hL4, hN4, .nil, rfl, (fun p hp => nomatch hp)⟩ (fun _ _ _ _ _ => trivial) ?_ ?_⟩
    · rintro i z σ H5 H5' hi ⟨o4, xs, cs, rfl, s5, hA5, hL5, hN5, hd, hc, hin⟩ ⟨rfl, rfl⟩
      walk_at "rd"
      refine ⟨.inl ⟨rfl, _, sq hL5⟩, ?_⟩
      walk_at "rd"
      show spCtr K _ _ _ _
      unfold spCtr
      refine ⟨src, N, ns, rfl, hA5, .inl ⟨nNs, hN5⟩, hnl, fun p c H6 s6 hA6 np hp hx hy => ?_⟩
      have hL6 := s6 _ _ nLs.symm hL5
      have nLH : H L = none := but_free s13 nLs.symm nL
      walk_at "rd"
      refine ⟨L, _, _, rfl, rfl, hL6, szl (by rw [da_len hd]; rw [List.length_map]; omega), ?_⟩
      refine ⟨_, xs ++ [.ref p], cs ++ [c], rfl, but_at nLH (s5.trans s6), src_upd hA6 nLs, upd_same, by rw [upd_ne nNL]; exact s6 _ _ nNs hN5, da_lst hL6 (da_snoc (da_but hA5 s6 hd) (ct_dp (.inl (.inl hp)))), by rw [List.length_append, hc]; rfl, fun x hx' => ?_⟩
      rcases List.mem_append.mp hx' with h | h
      · exact hin x h
      · rw [List.mem_singleton.mp h]
        exact ⟨hx, hy⟩
    · rintro σ H5 ⟨o4, xs, cs, rfl, s5, hA5, hL5, hN5, hd, hc, hin⟩
      walk_at "rd"
      refine ⟨N, _, rfl, .inl ⟨sq hN5, fun t1 nt1 => ?_⟩⟩
      have u1 := same_new nt1 (o := .tup (ns.map V.str))
      have g1 := upd_same (H := H5) (a := t1) (o := .tup (ns.map V.str))
      generalize upd H5 t1 (.tup (ns.map V.str)) = H6 at u1 g1 ⊢
      walk_at "rd"
      refine ⟨L, xs, rfl, .inl ⟨sq (u1 _ _ hL5), fun t2 nt2 => ?_⟩⟩
      have u2 := same_new nt2 (o := .tup xs)
      have g2 := upd_same (H := H6) (a := t2) (o := .tup xs)
      generalize upd H6 t2 (.tup xs) = H7 at u2 g2 ⊢
      walk_at "rd"
      refine ⟨sz (by show 2 ≤ 100000; decide), fun t3 nt3 => ?_⟩
      have u3 := same_new nt3 (o := .tup [.ref t1, .ref t2])
      have g3 := upd_same (H := H7) (a := t3) (o := .tup [.ref t1, .ref t2])
      have u := Same.trans u1 (Same.trans u2 u3)
      exact q t3 ns cs _ (s5.trans (Bx.Same.but u)) (src_same hA5 u) ⟨t1, t2, xs, .inl (.inl g3), Bx.Same.tup (Same.trans u2 u3) (.inl (.inl g1)), Bx.Same.tup u3 (.inl (.inl g2)), dpAll_same u hd⟩ hnl (by omega) hin fun n hn => hmm n (hnm n hn)
end
end K16
namespace K16
local macro_rules | `(tactic| walk_at "rd") => `(tactic| repeat (first | refine ⟨rfl, ?_⟩ | refine ⟨_, rfl, ?_⟩ | refine ⟨_, _, rfl, rfl, ?_⟩ | refine ⟨⟨_, rfl⟩, ?_⟩))
open PySem PySem.Spec PyProof.Rows L2 Bx TL Dx Zx Ow Dt M16
section
variable {P : Program} {w : World} {K : PySem.W.Frag} {mg : Str → Option Value} {base : Heap}
@[irreducible] def spIsInt : Sp := fun vs H Q _ => ∃ n : Int, vs = [.int n] ∧ Q (.bl true) H
theorem ok_is_int {f : Addr} {fd : FuncData} (F : Fun K "_law_is_int" "_law_is_int" s__law_is_int f fd) (m_isinstance : mg "isinstance" = none) (m_int : mg "int" = none) (m_bool : mg "bool" = none) : FnOk P w K mg base CX0 1 f fd ["_law_value"] spIsInt := by
  refine F.ok sc__law_is_int (fun vs H Q E h => ?_) (fun cdv A outer s H vs Q E hr h => ?_)
  · unfold spIsInt at h
    obtain ⟨n, rfl, _⟩ := h
    rfl
  · unfold spIsInt at h
    obtain ⟨n, rfl, q⟩ := h
    refine ⟨_, (pss_one (ps_ret (pe_and (pe_callB (id := "isinstance") call_isi (by rfl) m_isinstance (by decide +kernel) (pa_cons (pv 0) (pa_cons (pe_bltn (v := .ty "int") (by rfl) m_int (by decide +kernel) rfl) pa_nil))) (pe_one (pe_not (pe_callB (id := "isinstance") call_isi (by rfl) m_isinstance (by decide +kernel) (pa_cons (pv 0) (pa_cons (pe_bltn (v := .ty "bool") (by rfl) m_bool (by decide +kernel) rfl) pa_nil)))))))), ?_⟩
    walk_at "rd"
    refine ⟨_, _, _, _, true, rfl, .ty "int", .base (.int n), kit_ty (by decide +kernel), ?_⟩
    walk_at "rd"
    refine ⟨_, _, _, _, false, rfl, .ty "bool", .base (.int n), kit_ty (by decide +kernel), ?_⟩
    exact ⟨_, rfl, q⟩
theorem in_of {H : Hp} {C a p : Addr} {ns : List Str} {cs : List Ctr} {x y : Str} {c : Int} {neg : Bool} {Q : VK} (hD : DifAt K C H p ns cs) (ha : SqT K H a [.str x, .str y, .int c]) (q : ∀ H', Same H H' → Q (.bl (inB ns cs (x, y, c) != neg)) H') : rInO C (spCont K C) neg (.ref a) (.ref p) H Q := by
  obtain ⟨dx, th, d, t, zs, h1, hh⟩ := hD
  refine ⟨p, dx, _, rfl, h1, ?_⟩
  unfold spCont
  exact ⟨p, a, ns, cs, (x, y, c), rfl, ⟨dx, th, d, t, zs, h1, hh⟩, ha, fun H' s => ⟨_, rfl, q H' s⟩⟩
theorem in_no {ns : List Str} {cs : List Ctr} {c : Ctr} (e : satB (pls ns) cs = false) : inB ns cs c = true := by
  unfold inB
  rw [e]
  rfl
theorem in_yes {ns : List Str} {cs : List Ctr} {x y : Str} {k : Int} (e : satB (pls ns) cs = true) : inB ns cs (x, y, k) = match look (sums (pls ns) cs) (x, y) with | some v => decide (v ≤ k) | none => false := by
  unfold inB
  rw [e]
  rfl
@[irreducible] def spFol (K : PySem.W.Frag) (C : Addr) : Sp := fun vs H Q _ => ∃ (p d : Addr) (ns : List Str) (cs : List Ctr) (x y : Str), vs = [.ref p, .ref d, .bl (satB (pls ns) cs), .str x, .str y] ∧ DifAt K C H p ns cs ∧ Tb H d (sums (pls ns) cs) ∧ ∀ H', Same H H' → Q (.bl true) H'
theorem ok_follows {C : Addr} {f : Addr} {fd : FuncData} (F : Fun K "_law_follows_right" "_law_follows_right" s__law_follows_right f fd) (O___contains__ : OwM P w K mg base CX0 C "__contains__" 1 ["self", "x"] (spCont K C)) : FnOk P w K mg base CX0 4 f fd ["_law_actual", "_law_sums_here", "_law_there", "_law_x", "_law_y"] (spFol K C) := by
  refine F.ok sc__law_follows_right (fun vs H Q E h => ?_) (fun cdv A outer s H vs Q E hr h => ?_)
  · unfold spFol at h
    obtain ⟨p, d, ns, cs, x, y, rfl, _⟩ := h
    rfl
  · unfold spFol at h
    obtain ⟨p, d, ns, cs, x, y, rfl, hD, hd, q⟩ := h
    have hu := hu_of hr
    refine ⟨_, (pss_cons (ps_if (pt_not (pt_val (pv 2)))
      (pss_one (ps_ret (pe_and (pe_cmpR (op_inO O___contains__ (hr.mono (by decide))) (pe_tup (pa_cons (pv 3) (pa_cons (pv 4) (pa_cons (pe_un un_neg pe_int) pa_nil)))) (pv 0) (by rfl)) (pe_one (pe_cmpR (op_inO O___contains__ (hr.mono (by decide))) (pe_tup (pa_cons (pv 3) (pa_cons (pv 4) (pa_cons pe_int pa_nil)))) (pv 0) (by rfl))))))
      pss_nil)
    (pss_cons (ps_if (pt_cmp (pc_dnotin hu (pe_tup (pa_cons (pv 3) (pa_cons (pv 4) pa_nil))) (pv 1)))
      (pss_one (ps_ret (pe_cmpR (op_notInO O___contains__ (hr.mono (by decide))) (pe_tup (pa_cons (pv 3) (pa_cons (pv 4) (pa_cons pe_int pa_nil)))) (pv 0) (by rfl))))
      pss_nil)
    (pss_one (ps_ret (pe_and (pe_cmpR (op_inO O___contains__ (hr.mono (by decide))) (pe_tup (pa_cons (pv 3) (pa_cons (pv 4) (pa_cons (pe_dget hu (pv 1) (pe_tup (pa_cons (pv 3) (pa_cons (pv 4) pa_nil))) (fun _ _ => rfl)) pa_nil)))) (pv 0) (by rfl)) (pe_one (pe_cmpR (op_notInO O___contains__ (hr.mono (by decide))) (pe_tup (pa_cons (pv 3) (pa_cons (pv 4) (pa_cons (pe_op op_sub (pe_dget hu (pv 1) (pe_tup (pa_cons (pv 3) (pa_cons (pv 4) pa_nil))) (fun _ _ => rfl)) pe_int) pa_nil)))) (pv 0) (by rfl)))))))), ?_⟩
    walk_at "rd"
    cases eb : satB (pls ns) cs with
    | false =>
      walk_at "rd"
      refine ⟨sz (by show 3 ≤ 100000; decide), fun u nu => ?_⟩
      have su := same_new nu (o := .tup [V.str x, V.str y, V.int (-99)])
      walk_at "rd"
      refine in_of (hD.same su) (.inl (.inl upd_same)) fun H1 s1 => ?_
      rw [in_no eb]
      walk_at "rd"
      refine ⟨sz (by show 3 ≤ 100000; decide), fun u2 nu2 => ?_⟩
      have su2 := same_new nu2 (o := .tup [V.str x, V.str y, V.int 0])
      walk_at "rd"
      refine in_of ((hD.same (Same.trans su s1)).same su2) (.inl (.inl upd_same)) fun H2 s2 => ?_
      rw [in_no eb]
      exact q H2 (Same.trans su (Same.trans s1 (Same.trans su2 s2)))
    | true =>
      walk_at "rd"
      refine ⟨sz (by show 2 ≤ 100000; decide), fun u nu => ?_⟩
      have su := same_new nu (o := .tup [V.str x, V.str y])
      walk_at "rd"
      refine ⟨_, _, rfl, get_at (k := (x, y)) (su _ _ hd) upd_same, ?_⟩
      walk_at "rd"
      cases el : look (sums (pls ns) cs) (x, y) with
      | none =>
        walk_at "rd"
        refine ⟨sz (by show 3 ≤ 100000; decide), fun u2 nu2 => ?_⟩
        have su2 := same_new nu2 (o := .tup [V.str x, V.str y, V.int 99])
        walk_at "rd"
        refine in_of ((hD.same su).same su2) (.inl (.inl upd_same)) fun H2 s2 => ?_
        rw [in_yes eb, el]
        exact q H2 (Same.trans su (Same.trans su2 s2))
      | some v =>
        walk_at "rd"
        refine ⟨sz (by show 2 ≤ 100000; decide), fun u2 nu2 => ?_⟩
        have su2 := same_new nu2 (o := .tup [V.str x, V.str y])
        have sA := Same.trans su su2
        refine ⟨d, _, rfl, get_some (k := (x, y)) (sA _ _ hd) upd_same el, ?_⟩
        walk_at "rd"
        refine ⟨sz (by show 3 ≤ 100000; decide), fun u3 nu3 => ?_⟩
        have su3 := same_new nu3 (o := .tup [V.str x, V.str y, V.int v])
        have sB := Same.trans sA su3
        walk_at "rd"
        refine in_of (hD.same sB) (.inl (.inl upd_same)) fun H3 s3 => ?_
        have sC := Same.trans sB s3
        rw [in_yes eb, el]
        refine ⟨_, rfl, ?_⟩
        rw [if_pos (by show (decide (v ≤ v) != false) = true; rw [decide_eq_true (Int.le_refl v)]; rfl)]
        walk_at "rd"
        refine ⟨sz (by show 2 ≤ 100000; decide), fun u4 nu4 => ?_⟩
        have su4 := same_new nu4 (o := .tup [V.str x, V.str y])
        have sD := Same.trans sC su4
        refine ⟨d, _, rfl, get_some (k := (x, y)) (sD _ _ hd) upd_same el, ?_⟩
        walk_at "rd"
        refine ⟨sz (by show 3 ≤ 100000; decide), fun u5 nu5 => ?_⟩
        have su5 := same_new nu5 (o := .tup [V.str x, V.str y, V.int (v - 1)])
        have sE := Same.trans sD su5
        walk_at "rd"
        refine in_of (hD.same sE) (.inl (.inl upd_same)) fun H6 s6 => ?_
        rw [in_yes eb, el]
        have z := q H6 (Same.trans sE s6)
        have e1 : (decide (v ≤ v - 1) != true) = true := by rw [decide_eq_false (by omega)]; rfl
        show Q (V.bl (decide (v ≤ v - 1) != true)) H6
        rw [e1]
        exact z
@[irreducible] def spLSat (K : PySem.W.Frag) : Sp := fun vs H Q _ => ∃ (a d : Addr) (ns : List Str) (cs : List Ctr), vs = [.ref a, .ref d] ∧ ThAt K H a ns cs ∧ Tb H d (sums (pls ns) cs) ∧ ns.length ≤ 8 ∧ ∀ H', Same H H' → Q (.bl (satB (pls ns) cs)) H'
theorem ok_lsat {f : Addr} {fd : FuncData} (F : Fun K "_law_satisfiable" "_law_satisfiable" s__law_satisfiable f fd) (m_list : mg "list" = none) (m_len : mg "len" = none) : FnOk P w K mg base CX0 1 f fd ["_law_theory_here", "_law_sums_here"] (spLSat K) := by
  refine F.ok sc__law_satisfiable (fun vs H Q E h => ?_) (fun cdv A outer s H vs Q E hr h => ?_)
  · unfold spLSat at h
    obtain ⟨a, d, ns, cs, rfl, _⟩ := h
    rfl
  · unfold spLSat at h
    obtain ⟨a, d, ns, cs, rfl, ⟨na, ca, xs, ha, hn, hc, hdd⟩, hT, hnl, q⟩ := h
    have hu := hu_of hr
    refine ⟨_, (pss_one (ps_ret (pe_cmpR op_eq (pe_callB call_len_seq (by rfl) m_len PySem.boot_len (pa_cons (pe_lc (own := [("_law_place", 2)]) rfl sc__law_satisfiable.nd (pi_list (pe_op op_cat (pe_lst (pa_cons pe_str pa_nil)) (pe_callTy (T := "list") call_list_of (by rfl) m_list (by decide +kernel) (pa_cons (pe_ix ix_tup (pv 0) pe_int (fun _ _ => rfl)) pa_nil)))) (blkOk_by (N := n__law_satisfiable) (sc := defScope s__law_satisfiable) (by decide +kernel)) (fun _ _ _ _ _ => pg_name (i := 2) sc__law_satisfiable.nd rfl (Or.inl rfl)) (fun _ _ _ _ _ => pts_one (pt_cmpR op_lt (pe_dget hu (pv 1) (pe_tup (pa_cons (pv 2) (pa_cons (pv 2) pa_nil))) (fun _ _ => rfl)) pe_int (nomark _))) (fun _ _ _ _ _ => (pv 2))) pa_nil)) pe_int (nomark _)))), ?_⟩
    walk_at "rd"
    refine ⟨sz (by show 1 ≤ 100000; decide), fun L0 nL0 => ?_⟩
    have s0 := same_new nL0 (o := .lst [V.str (Str.ofString "")])
    walk_at "rd"
    refine ⟨_, _, _, _, rfl, rfl, Bx.Same.tup s0 ha, atI_nat (j := 0) rfl, ?_⟩
    walk_at "rd"
    refine ⟨na, _, rfl, .inr (Bx.Same.tup s0 hn), fun L1 nL1 => ?_⟩
    have s1 := same_new nL1 (o := .lst (ns.map V.str))
    refine ⟨L0, L1, _, _, rfl, rfl, s1 _ _ upd_same, upd_same, sz (by rw [List.length_map]; show 1 + ns.length ≤ 100000; omega), fun L nL => ?_⟩
    have s2 := same_new nL (o := .lst ([V.str (Str.ofString "")] ++ ns.map V.str))
    have sB := Same.trans s0 (Same.trans s1 s2)
    have hL : (upd (upd (upd H L0 (.lst [V.str (Str.ofString "")])) L1 (.lst (ns.map V.str))) L (.lst ([V.str (Str.ofString "")] ++ ns.map V.str))) L = some (.lst ((pls ns).map V.str)) := upd_same
    generalize upd (upd (upd H L0 (.lst [V.str (Str.ofString "")])) L1 (.lst (ns.map V.str))) L (.lst ([V.str (Str.ofString "")] ++ ns.map V.str)) = HB at *
    walk_at "rd"
    refine ⟨⟨_, sq hL⟩, fun M nM => ?_⟩
    refine lc_it walk_list (fun i H' => ∃ us : List V, H' M = some (.lst us) ∧ us.length = (((pls ns).take i).filter fun n => decide (getI (sums (pls ns) cs) n < 0)).length ∧ Same HB H') ⟨[], upd_same, rfl, same_new nM⟩ (fun i H' _ ⟨_, _, _, s⟩ => sq (s _ _ hL)) ?_ ?_
    · rintro i x H1 H2 hi ⟨us, hM, hul, sM⟩ ⟨rfl, hx⟩
      obtain ⟨n, hn, rfl⟩ := at_map hx
      obtain ⟨v, lk⟩ := sums_has (cs := cs) (List.mem_of_getElem? hn)
      have gv : getI (sums (pls ns) cs) n = v := by unfold getI; rw [lk]; rfl
      have tk : ((pls ns).take (i + 1)).filter (fun n => decide (getI (sums (pls ns) cs) n < 0)) = ((pls ns).take i).filter (fun n => decide (getI (sums (pls ns) cs) n < 0)) ++ [n].filter (fun n => decide (getI (sums (pls ns) cs) n < 0)) := by
        rw [List.take_add_one, hn, List.filter_append]
        rfl
      have ul : us.length ≤ 9 := by
        rw [hul]
        refine Nat.le_trans (List.length_filter_le ..) ?_
        rw [List.length_take]
        have : (pls ns).length = ns.length + 1 := rfl
        omega
      walk_at "rd"
      refine ⟨sz (by show 2 ≤ 100000; decide), fun u nu => ?_⟩
      have su := same_new nu (o := .tup [V.str n, V.str n])
      have hT2 : Tb (upd H2 u (.tup [V.str n, V.str n])) d (sums (pls ns) cs) := su _ _ (sM _ _ (sB _ _ hT))
      refine ⟨d, _, rfl, get_some (k := (n, n)) hT2 upd_same lk, ?_⟩
      walk_at "rd"
      refine ite2 (fun h0 => ?_) (fun h0 => ?_)
      · have h1 : v < 0 := of_decide_eq_true h0
        walk_at "rd"
        refine ⟨us, su _ _ hM, szl (by omega), us ++ [.str n], upd_same, ?_, same_at nM (Same.trans sM su)⟩
        rw [tk, List.filter_cons_of_pos (by rw [gv]; exact decide_eq_true h1), List.length_append, List.length_append, hul]
        rfl
      · have h1 : ¬ v < 0 := of_decide_eq_false (by cases e : decide (v < 0) with | true => exact absurd e h0 | false => rfl)
        refine ⟨us, su _ _ hM, ?_, Same.trans sM su⟩
        rw [tk, List.filter_cons_of_neg (by rw [gv, decide_eq_false h1]; decide), List.length_append, hul]
        rfl
    · rintro H1 ⟨us, hM, hul, sM⟩
      walk_at "rd"
      refine ⟨M, us, rfl, .inl (sq hM), ?_⟩
      walk_at "rd"
      have ee : satB (pls ns) cs = decide (us.length = 0) := by
        unfold satB
        rw [hul, List.length_map, List.take_length]
        rw [Bool.eq_iff_iff, List.all_eq_true, decide_eq_true_iff, List.length_eq_zero_iff, List.filter_eq_nil_iff]
        refine forall_congr' fun x => imp_congr_right fun _ => ?_
        rw [decide_eq_true_iff, decide_eq_true_iff]
        omega
      have z := q H1 (Same.trans sB sM)
      rw [ee] at z
      have e2 : decide (V.int (us.length : Int) = V.int 0) = decide (us.length = 0) := by
        rw [decide_eq_decide]
        exact ⟨fun h => by have := V.int.inj h; omega, fun h => by rw [h]; rfl⟩
      show Q (.bl (decide (V.int (us.length : Int) = V.int 0))) H1
      rw [e2]
      exact z
end
end K16
namespace K16
local macro_rules | `(tactic| walk_at "rd") => `(tactic| repeat (first | refine ⟨rfl, ?_⟩ | refine ⟨_, rfl, ?_⟩ | refine ⟨_, _, rfl, rfl, ?_⟩ | refine ⟨⟨_, rfl⟩, ?_⟩))
open PySem PySem.Spec PyProof.Rows L2 Bx TL Dx Zx Ow Dt M16 Er Sup
section
variable {P : Program} {w : World} {K : PySem.W.Frag} {mg : Str → Option Value} {base : Heap}
/-- isinstance of a caught error that has no dict -/
def rIsN (K : PySem.W.Frag) (a : Addr) (cls : Value) (d : Option Addr) : List V → Hp → VK → Prop := fun xs H Q => ∃ D, cls = .ref D ∧ d = none ∧ ExcC K D ∧ rIsE K D a xs H Q
theorem call_isN {X : Cx} {a : Addr} {cls : Value} {d : Option Addr} {oe : Obj} {pn : List (Addr × Obj)} (hz : Zc cls d oe) (hf : ∃ vs, oe.data = .fields vs) : CallR (X.suite a ((a, oe) :: pn)) (.builtin "isinstance") (rIsN X.K a cls d) := by
  intro pins s σ H xs us Q I r h
  obtain ⟨D, rfl, rfl, C, h⟩ := h
  exact call_isE C hz hf pins s σ H xs us Q I r h
/-- the error's class, as a handler sees it -/
structure ErS (K : PySem.W.Frag) (mg : Str → Option Value) (CF SE : Addr) : Prop where
  te : PySem.W.exmOne K (.ref CF) (.ref CF) = some true
  ec : ExcC K CF
  isS : PySem.W.kitOne K (.ref CF) (.ref SE) = some true
  gS : mg "ShadowError" = some (.ref SE)
@[irreducible] def spDif (K : PySem.W.Frag) (C : Addr) : Sp := fun vs H Q _ => ∃ (p d : Addr) (ns : List Str) (cs : List Ctr) (x y : Str), vs = [.ref p, .ref d, .bl (satB (pls ns) cs), .str x, .str y] ∧ DifAt K C H p ns cs ∧ Tb H d (sums (pls ns) cs) ∧ ∀ H', Same H H' → Q (.bl true) H'
theorem ok_diff {C CF SE : Addr} (er : ErN K mg CF) (es : ErS K mg CF SE) {f : Addr} {fd : FuncData} (F : Fun K "_law_difference_right" "_law_difference_right" s__law_difference_right f fd) (m_isinstance : mg "isinstance" = none) (O___getitem__ : OwM P w K mg base (L2.CX P w) C "__getitem__" 1 ["self", "at"] (spGet K C CF)) (fi_get : ∀ f, PySem.W.findIn K (.ref C) "__getitem__" = some (some (.ref f)) → PySem.W.fnIn K f = true)
    (C__law_is_int : Cal P w K mg base "_law_is_int" 1 ["_law_value"] spIsInt) : FnOk P w K mg base CX0 4 f fd ["_law_actual", "_law_sums_here", "_law_there", "_law_x", "_law_y"] (spDif K C) := by
  have g_ShadowError := es.gS
  refine F.ok sc__law_difference_right (fun vs H Q E h => ?_) (fun cdv A outer s H vs Q E hr h => ?_)
  · unfold spDif at h
    obtain ⟨p, d, ns, cs, x, y, rfl, _⟩ := h
    rfl
  · unfold spDif at h
    obtain ⟨p, d, ns, cs, x, y, rfl, hD, hd, q⟩ := h
    have hu := hu_of hr
    refine ⟨_, (pss_cons (ps_try_as (i := 5) rfl rfl sc__law_difference_right.nd rfl rfl ⟨rfl, by decide, .inl er.gF⟩ takes0 (fun W pn xe tk po =>
      (pss_one (ps_set (i := 6) sc__law_difference_right.nd rfl (Or.inl rfl) (pe_subO O___getitem__ fi_get (hr.mono (by decide)) (fun σ => passAt tk σ) (pv 0) (pe_tup (pa_cons (pv 3) (pa_cons (pv 4) pa_nil)))))))
      (fun a oe cls d pn hz hf =>
      (pss_one (ps_ret (pe_and (pe_not (pv 2)) (pe_one (pe_callB (id := "isinstance") (call_isN hz hf) (by rfl) m_isinstance (by decide +kernel) (pa_cons (pv 5) (pa_cons (pe_glob (v := .ref SE) rfl g_ShadowError rfl) pa_nil)))))))))
    (pss_cons (ps_if (pt_not (pt_val (pv 2)))
      (pss_one (ps_ret pe_bl))
      pss_nil)
    (pss_cons (ps_if (pt_cmp (pc_dnotin hu (pe_tup (pa_cons (pv 3) (pa_cons (pv 4) pa_nil))) (pv 1)))
      (pss_one (ps_ret (pe_cmpR op_isN (pv 6) pe_non (nomark _))))
      pss_nil)
    (pss_one (ps_ret (pe_and (pe_cal C__law_is_int (hr.mono (by decide)) (pa_cons (pv 6) pa_nil)) (pe_one (pe_cmpR op_eq (pv 6) (pe_dget hu (pv 1) (pe_tup (pa_cons (pv 3) (pa_cons (pv 4) pa_nil))) (fun _ _ => rfl)) (nomark _))))))))), ?_⟩
    obtain ⟨dx, th, d', t, zs, h1, hh⟩ := id hD
    cases eb : satB (pls ns) cs with
    | false =>
      walk_at "rd"
      refine ⟨sz (by show 2 ≤ 100000; decide), fun u nu => ?_⟩
      have su := same_new nu (o := .tup [V.str x, V.str y])
      refine ⟨p, dx, _, rfl, su _ _ h1, ?_⟩
      show spGet K C CF _ _ _ _
      unfold spGet
      refine ⟨p, u, ns, cs, x, y, rfl, hD.same su, .inl (.inl upd_same), fun _ => ?_, fun e => by rw [eb] at e; cases e⟩
      refine ⟨true, es.te, fun _ a na => ?_, fun h => nomatch h⟩
      walk_at "rd"
      refine ⟨es.ec, _, _, true, rfl, (fun u r => r), es.isS, ?_⟩
      exact q _ su
    | true =>
      walk_at "rd"
      refine ⟨sz (by show 2 ≤ 100000; decide), fun u nu => ?_⟩
      have su := same_new nu (o := .tup [V.str x, V.str y])
      refine ⟨p, dx, _, rfl, su _ _ h1, ?_⟩
      show spGet K C CF _ _ _ _
      unfold spGet
      refine ⟨p, u, ns, cs, x, y, rfl, hD.same su, .inl (.inl upd_same), (fun e => by rw [eb] at e; cases e), fun _ H1 s1 => ?_⟩
      have s01 := Same.trans su s1
      cases el : look (sums (pls ns) cs) (x, y) with
      | none =>
        walk_at "rd"
        refine ⟨sz (by show 2 ≤ 100000; decide), fun u2 nu2 => ?_⟩
        have s02 := Same.trans s01 (same_new nu2 (o := .tup [V.str x, V.str y]))
        walk_at "rd"
        refine ⟨_, _, rfl, get_at (k := (x, y)) (s02 _ _ hd) upd_same, ?_⟩
        rw [el]
        walk_at "rd"
        exact q _ s02
      | some v =>
        walk_at "rd"
        refine ⟨sz (by show 2 ≤ 100000; decide), fun u2 nu2 => ?_⟩
        have s02 := Same.trans s01 (same_new nu2 (o := .tup [V.str x, V.str y]))
        walk_at "rd"
        refine ⟨_, _, rfl, get_at (k := (x, y)) (s02 _ _ hd) upd_same, ?_⟩
        rw [el]
        walk_at "rd"
        show spIsInt _ _ _ _
        unfold spIsInt
        refine ⟨v, rfl, ?_⟩
        walk_at "rd"
        refine ⟨sz (by show 2 ≤ 100000; decide), fun u3 nu3 => ?_⟩
        have s03 := Same.trans s02 (same_new nu3 (o := .tup [V.str x, V.str y]))
        refine ⟨d, _, rfl, get_some (k := (x, y)) (s03 _ _ hd) upd_same el, ?_⟩
        walk_at "rd"
        have z := q _ s03
        rw [show (true : Bool) = decide (V.int v = V.int v) from (decide_eq_true rfl).symm] at z
        exact z
end
end K16
namespace K16
local macro_rules | `(tactic| walk_at "rd") => `(tactic| repeat (first | refine ⟨rfl, ?_⟩ | refine ⟨_, rfl, ?_⟩ | refine ⟨_, _, rfl, rfl, ?_⟩ | refine ⟨⟨_, rfl⟩, ?_⟩))
open PySem PySem.Spec PyProof.Rows L2 Bx TL Dx Zx Ow Dt M16 Er Sup
section
variable {P : Program} {w : World} {K : PySem.W.Frag} {mg : Str → Option Value} {base : Heap}
/-- the class at C has the property m, whose getter keeps sp -/
structure PropC (P : Program) (w : World) (K : PySem.W.Frag) (mg : Str → Option Value) (base : Heap) (C : Addr) (m : Str) (k : Nat) (sp : Sp) : Prop where
  cl : Cls K C
  ex : ∃ (p g : Addr) (fd : FuncData), PropOf K C m p g ∧ FnOk P w K mg base CX0 k g fd ["self"] sp ∧ Binds K fd ["self"] []
theorem pe_propC {X : Cx} {C : Addr} {m : Str} {k : Nat} {sp : Sp} {e : Expr} {ta : TE} {pos : Pos} (c : PropC X.prog X.w X.K X.mg X.base C m k sp) (hr : Room (k + 1) X.A) (he : PE X e ta) (hab : attributeBase e m X.env (eval e X.env) = eval e X.env) : PE X (.Attribute e m pos) (tProp C sp [] E0 ta) := by
  obtain ⟨p, g, fd, hp, F, hb⟩ := c.ex
  exact pe_prop he c.cl hp F hr hb .nil pass0 hab
/-- a key of the dict, as a tuple of the heap -/
def Pk (H : Hp) (v : V) (d : PyData) : Prop := ∃ (t : Addr) (k : P2), v = .ref t ∧ d = prK k ∧ H t = some (.tup [.str k.1, .str k.2])
theorem prK_inj {k j : P2} (h : prK k = prK j) : k = j := by
  unfold prK at h
  injection h with h
  injection h with h1 h2
  injection h2 with h2 _
  injection h1 with h1
  injection h2 with h2
  exact Prod.ext h1 h2
theorem keys_pk {H : Hp} : ∀ {m : Tab} {bs : List Addr}, IsKeys H (enc m) bs → Paired (Pk H) (bs.map V.ref) (m.map fun x => prK x.1) ∧ DpAll K H (bs.map V.ref) (m.map fun x => prK x.1)
  | [], bs, h => by
    cases h
    exact ⟨.nil, .nil⟩
  | x :: m, bs, h => by
    cases h with
    | cons h t =>
      obtain ⟨t1, t2⟩ := keys_pk t
      exact ⟨.cons ⟨_, x.1, rfl, rfl, h⟩ t1, .cons (.tup (.inl (.inl h)) (.cons (.str _) (da_one (.str _)))) t2⟩
theorem pk_at {H : Hp} : ∀ {ys : List V} {l : Tab}, Paired (Pk H) ys (l.map fun x => prK x.1) → ∀ {i : Nat} {v : V}, ys[i]? = some v → ∃ x t, l[i]? = some x ∧ v = .ref t ∧ H t = some (.tup [.str x.1.1, .str x.1.2])
  | [], l, _, i, v, h => by cases i <;> cases h
  | y :: ys, [], h, i, v, hv => by cases h
  | y :: ys, x :: l, h, i, v, hv => by
    cases h with
    | cons h t =>
      cases i with
      | zero =>
        cases hv
        obtain ⟨t, k, rfl, e, ht⟩ := h
        rw [← prK_inj e] at ht
        exact ⟨x, t, rfl, rfl, ht⟩
      | succ i => exact pk_at t hv
theorem lay_cs {l : List Ctr} (h : ∀ c ∈ l, PyData.strOk c.1 = true ∧ PyData.strOk c.2.1 = true) : Lays 1 (l.map ctD) := lays_of fun d hd => by
  obtain ⟨c, hc, rfl⟩ := List.mem_map.mp hd
  obtain ⟨h1, h2⟩ := h c hc
  exact lay_tuple (lays_of fun e he => by
    rcases List.mem_cons.mp he with rfl | he
    · exact lay_str h1
    · rcases List.mem_cons.mp he with rfl | he
      · exact lay_str h2
      · rw [List.mem_singleton.mp he]
        exact lay_int)
@[irreducible] def spObj (K : PySem.W.Frag) (C : Addr) : Sp := fun vs H Q _ => ∃ (a p : Addr) (ns : List Str) (cs : List Ctr), vs = [.ref a, .ref p] ∧ ThAt K H a ns cs ∧ DifAt K C H p ns cs ∧ ns.length ≤ 8 ∧ cs.length ≤ 100 ∧ (∀ c ∈ rowsOf (pls ns) cs, PyData.strOk c.1 = true ∧ PyData.strOk c.2.1 = true) ∧ ∀ H', Same H H' → Q (.bl true) H'
theorem ok_object {C : Addr} {f : Addr} {fd : FuncData} (F : Fun K "_law_object_right" "_law_object_right" s__law_object_right f fd) (m_isinstance : mg "isinstance" = none) (m_bool : mg "bool" = none) (m_list : mg "list" = none) (m_len : mg "len" = none) (m_sorted : mg "sorted" = none) (cf : K16.CF K C)
    (P_satisfiable : PropC P w K mg base C "satisfiable" 1 (spSat K C)) (I_Differences : ItM P w K mg base C "_rows" 1) (O___len__ : OwM P w K mg base CX0 C "__len__" 1 ["self"] (spLen K C))
    (C__law_sums : Cal P w K mg base "_law_sums" 1 ["_law_theory_here"] (spLSums K)) (C__law_satisfiable : Cal P w K mg base "_law_satisfiable" 1 ["_law_theory_here", "_law_sums_here"] (spLSat K))
    (C__law_difference_right : Cal P w K mg base "_law_difference_right" 4 ["_law_actual", "_law_sums_here", "_law_there", "_law_x", "_law_y"] (spDif K C)) (C__law_follows_right : Cal P w K mg base "_law_follows_right" 4 ["_law_actual", "_law_sums_here", "_law_there", "_law_x", "_law_y"] (spFol K C)) :
    FnOk P w K mg base CX0 6 f fd ["_law_theory_here", "_law_actual"] (spObj K C) := by
  refine F.ok sc__law_object_right (fun vs H Q E h => ?_) (fun cdv A outer s H vs Q E hr h => ?_)
  · unfold spObj at h
    obtain ⟨a, p, ns, cs, rfl, _⟩ := h
    rfl
  · unfold spObj at h
    obtain ⟨a, p, ns, cs, rfl, hT, hD, hnl, hcl, hok, q⟩ := h
    have hu := hu_of hr
    refine ⟨_, (pss_cons (ps_set (i := 2) sc__law_object_right.nd rfl (Or.inr rfl) (pe_cal C__law_sums (hr.mono (by decide)) (pa_cons (pv 0) pa_nil)))
    (pss_cons (ps_set (i := 3) sc__law_object_right.nd rfl (Or.inl rfl) (pe_cal C__law_satisfiable (hr.mono (by decide)) (pa_cons (pv 0) (pa_cons (pv 2) pa_nil))))
    (pss_cons (ps_if (PW.pt (pw_or (pt_not (pt_val (pe_callB (id := "isinstance") call_isi (by rfl) m_isinstance (by decide +kernel) (pa_cons (pe_propC P_satisfiable (hr.mono (by decide)) (pv 1) rfl) (pa_cons (pe_bltn (v := .ty "bool") (by rfl) m_bool (by decide +kernel) rfl) pa_nil))))) (pw_or1 (pt_cmpR op_ne (pe_propC P_satisfiable (hr.mono (by decide)) (pv 1) rfl) (pv 3) (nomark _)))))
      (pss_one (ps_ret pe_bl))
      pss_nil)
    (pss_cons (ps_set (i := 4) sc__law_object_right.nd rfl (Or.inl rfl) (pe_lst (pa_cons (pe_tup (pa_cons pe_str (pa_cons pe_str (pa_cons (pe_un un_neg pe_int) pa_nil)))) pa_nil)))
    (pss_cons (ps_if (pt_val (pv 3))
      (pss_one (ps_setLc (i := 4) (own := [("_law_pair", 8)]) rfl sc__law_object_right.nd rfl rfl (sw_true rfl rfl rfl (by decide +kernel)) (pi_list (pe_callB (id := "sorted") (So.cr_sortP (room hr)) (by rfl) m_sorted (by decide +kernel) (pa_cons (pe_callTy (T := "list") (call_list_dT rfl) (by rfl) m_list (by decide +kernel) (pa_cons (pv 2) pa_nil)) pa_nil))) (blkOk_by (N := n__law_object_right) (sc := defScope s__law_object_right) (by decide +kernel)) (fun _ _ _ _ _ => pg_name (i := 8) sc__law_object_right.nd rfl (Or.inl rfl)) (fun _ _ _ _ _ => pts_one (pt_cmpR op_ne (pe_ix (ix_tupK (K := K) rfl) (pv 8) pe_int (fun _ _ => rfl)) (pe_ix (ix_tupK (K := K) rfl) (pv 8) pe_int (fun _ _ => rfl)) (nomark _))) (fun _ _ _ _ _ => (pe_tup (pa_cons (pe_ix (ix_tupK (K := K) rfl) (pv 8) pe_int (fun _ _ => rfl)) (pa_cons (pe_ix (ix_tupK (K := K) rfl) (pv 8) pe_int (fun _ _ => rfl)) (pa_cons (pe_dget hu (pv 2) (pv 8) (fun _ _ => rfl)) pa_nil)))))))
      pss_nil)
    (pss_cons (ps_if (PW.pt (pw_or (pt_cmpR (op_neD hr.units) (pe_lc (own := [("_law_constraint_here", 9)]) (tt := tYes) rfl sc__law_object_right.nd (pi_iterO I_Differences (hr.mono (by decide)) (pv 1)) (blkOk_by (N := n__law_object_right) (sc := defScope s__law_object_right) (by decide +kernel)) (fun _ _ _ _ _ => pg_name (i := 9) sc__law_object_right.nd rfl (Or.inl rfl)) (fun _ _ _ _ _ => pts_nil) (fun _ _ _ _ _ => (pv 9))) (pv 4) (nomark _)) (pw_or1 (pt_cmpR op_ne (pe_callB (call_lenO O___len__ (hr.mono (by decide))) (by rfl) m_len PySem.boot_len (pa_cons (pv 1) pa_nil)) (pe_callB call_len_seq (by rfl) m_len PySem.boot_len (pa_cons (pv 4) pa_nil)) (nomark _)))))
      (pss_one (ps_ret pe_bl))
      pss_nil)
    (pss_cons (ps_set (i := 5) sc__law_object_right.nd rfl (Or.inl rfl) (pe_op op_cat (pe_lst (pa_cons pe_str pa_nil)) (pe_callTy (T := "list") call_list_of (by rfl) m_list (by decide +kernel) (pa_cons (pe_ix ix_tup (pv 0) pe_int (fun _ _ => rfl)) pa_nil))))
    (pss_cons (ps_for PassesOwn.never rfl (pi_list (pv 5)) (pg_name (i := 6) sc__law_object_right.nd rfl (Or.inl rfl))
      (pss_one (ps_for PassesOwn.never rfl (pi_list (pv 5)) (pg_name (i := 7) sc__law_object_right.nd rfl (Or.inl rfl))
      (pss_cons (ps_if (pt_not (pt_val (pe_cal C__law_difference_right (hr.mono (by decide)) (pa_cons (pv 1) (pa_cons (pv 2) (pa_cons (pv 3) (pa_cons (pv 6) (pa_cons (pv 7) pa_nil))))))))
      (pss_one (ps_ret pe_bl))
      pss_nil)
    (pss_one (ps_if (PW.pt (pw_and (PW.pt (pw_or (pt_cmpR op_ne (pv 6) (pv 7) (nomark _)) (pw_or1 (pt_cmpR op_eq (pv 6) pe_str (nomark _))))) (pw_and1 (pt_not (pt_val (pe_cal C__law_follows_right (hr.mono (by decide)) (pa_cons (pv 1) (pa_cons (pv 2) (pa_cons (pv 3) (pa_cons (pv 6) (pa_cons (pv 7) pa_nil)))))))))))
      (pss_one (ps_ret pe_bl))
      pss_nil))))))
    (pss_one (ps_ret pe_bl)))))))))), ?_⟩
    walk_at "rd"
    show spLSums K _ _ _ _
    unfold spLSums
    refine ⟨a, ns, cs, rfl, hT, hnl, hcl, fun d H1 s1 nd hd => ?_⟩
    walk_at "rd"
    show spLSat K _ _ _ _
    unfold spLSat
    refine ⟨a, d, ns, cs, rfl, hT.same s1, hd, hnl, fun H2 s2 => ?_⟩
    have s12 := Same.trans s1 s2
    have hd2 : Tb H2 d (sums (pls ns) cs) := s2 _ _ hd
    have hD2 := hD.same s12
    have hT2 := hT.same s12
    clear nd hd
    obtain ⟨dx, th, d', t, zs, h1, h2, h3, h4, h5⟩ := id hD2
    have prop : ∀ {Q : VK}, Q (.bl (satB (pls ns) cs)) H2 → ∃ a dx fs, V.ref p = .ref a ∧ H2 a = some (.ins C dx fs) ∧ spSat K C [.ref a] H2 Q E0 := fun {Q} q => by
      refine ⟨p, dx, _, rfl, h1, ?_⟩
      unfold spSat
      exact ⟨p, ns, cs, rfl, hD2, q⟩
    walk_at "rd"
    refine prop ?_
    walk_at "rd"
    refine ⟨_, _, _, _, true, rfl, .ty "bool", .base (.bl _), kit_ty (by decide +kernel), ?_⟩
    walk_at "rd"
    refine prop ?_
    walk_at "rd"
    refine ite2 (fun h => absurd rfl (ne_t h)) (fun _ => ?_)
    walk_at "rd"
    refine ⟨sz (by show 3 ≤ 100000; decide), fun u nu => ?_⟩
    have su := same_new nu (o := .tup [V.str (Str.ofString ""), V.str (Str.ofString ""), V.int (-1)])
    have gu := upd_same (H := H2) (a := u) (o := .tup [V.str (Str.ofString ""), V.str (Str.ofString ""), V.int (-1)])
    walk_at "rd"
    refine ⟨sz (by show 1 ≤ 100000; decide), fun L nL => ?_⟩
    have sL := same_new nL (o := .lst [V.ref u])
    have suL := Same.trans su sL
    walk_at "rd"
    refine if_asg (fun v H' => ∃ (L : Addr) (xs : List V), v = .ref L ∧ Same H2 H' ∧ H' L = some (.lst xs) ∧ DpAll K H' xs ((rowsOf (pls ns) cs).map ctD)) rfl (fun eb Z k => ?_) (fun eb => ?_) ?_
    · have er : rowsOf (pls ns) cs = rows (sums (pls ns) cs) := if_pos eb
      rw [er] at k
      have nd := nd_sums (pls ns) cs
      have hps : (pls ns).length ≤ 9 := by show ns.length + 1 ≤ 9; omega
      have hml := sums_len hps hcl
      generalize hm : sums (pls ns) cs = m at hd2 k nd hml
      show tLc _ _ _ _ _ _ (upd (upd H2 u (.tup [V.str (Str.ofString ""), V.str (Str.ofString ""), V.int (-1)])) L (.lst [V.ref u])) Z
      generalize upd (upd H2 u (.tup [V.str (Str.ofString ""), V.str (Str.ofString ""), V.int (-1)])) L (.lst [V.ref u]) = HB at suL ⊢
      walk_at "rd"
      refine ⟨d, _, rfl, .inl (suL _ _ hd2), fun b1 bs nb1 hk => ?_⟩
      have sb1 := same_new nb1 (o := .lst (bs.map V.ref))
      obtain ⟨pk, pd⟩ := keys_pk (K := K) hk
      walk_at "rd"
      refine ⟨Pk HB, b1, bs.map V.ref, _, pk, rfl, sq upd_same, dpAll_same sb1 pd, PySem.W.AllAlike.of fun b c => rfl, PySem.W.Sortable.tuples fun b => ⟨_, _, rfl⟩, sz (by rw [List.length_map]; omega), fun e he => ?_, fun ys b2 nb2 hy py => ?_⟩
      · obtain ⟨x, _, rfl⟩ := List.mem_map.mp he
        show 1 ≤ _
        decide
      · rw [keys_sorted] at hy py
        have sb2 := same_new nb2 (o := .lst ys)
        have sC := Same.trans sb1 sb2
        have hyl : ys.length = (m.mergeSort kle).length := by rw [da_len hy, List.length_map]
        have hsl : (m.mergeSort kle).length = m.length := List.length_mergeSort ..
        have hb2 := upd_same (H := upd HB b1 (.lst (bs.map V.ref))) (a := b2) (o := .lst ys)
        generalize upd (upd HB b1 (.lst (bs.map V.ref))) b2 (.lst ys) = HC at sb2 sC hb2 ⊢
        walk_at "rd"
        refine ⟨⟨_, sq hb2⟩, fun M nM => ?_⟩
        have smem : ∀ x ∈ m.mergeSort kle, look m x.1 = some x.2 := fun x hx => look_mem nd x (List.mem_mergeSort.mp hx)
        have hrow : rows m = ((m.mergeSort kle).filter fun x => decide (x.1.1 ≠ x.1.2)).map trp := rfl
        generalize m.mergeSort kle = srt at py hyl hsl smem hrow
        refine lc_it walk_list (fun i H' => ∃ us : List V, H' M = some (.lst us) ∧ DpAll K H' us ((((srt.take i).filter fun x : P2 × Int => decide (x.1.1 ≠ x.1.2)).map trp).map ctD) ∧ us.length ≤ i ∧ Same HC H') ⟨[], upd_same, .nil, Nat.le_refl _, same_new nM⟩ (fun i H' _ ⟨_, _, _, _, s⟩ => sq (s _ _ hb2)) ?_ ?_
        · rintro i v H4 H5 hi ⟨us, hM, dM, hul, s4⟩ ⟨rfl, hx⟩
          obtain ⟨x, t, hxi, rfl, ht⟩ := pk_at py hx
          have ht4 : H5 t = some (.tup [.str x.1.1, .str x.1.2]) := s4 _ _ (sC _ _ ht)
          have hd4 : Tb H5 d m := s4 _ _ (sC _ _ (suL _ _ hd2))
          have tk : (srt.take (i + 1)).filter (fun x : P2 × Int => decide (x.1.1 ≠ x.1.2)) = (srt.take i).filter (fun x : P2 × Int => decide (x.1.1 ≠ x.1.2)) ++ [x].filter (fun x : P2 × Int => decide (x.1.1 ≠ x.1.2)) := by
            rw [List.take_add_one, hxi, List.filter_append]
            rfl
          have him : i < srt.length := (List.getElem?_eq_some_iff.mp hxi).1
          have lk := smem x (List.mem_of_getElem? hxi)
          walk_at "rd"
          refine ⟨_, _, _, _, rfl, rfl, .inl (.inl ht4), atI_nat (j := 0) rfl, ?_⟩
          walk_at "rd"
          refine ⟨_, _, _, _, rfl, rfl, .inl (.inl ht4), atI_nat (j := 1) rfl, ?_⟩
          walk_at "rd"
          refine ite2 (fun h0 => ?_) (fun h0 => ?_)
          · have hne : x.1.1 ≠ x.1.2 := fun z => ne_t h0 (congrArg V.str z)
            walk_at "rd"
            refine ⟨_, _, _, _, rfl, rfl, .inl (.inl ht4), atI_nat (j := 0) rfl, ?_⟩
            walk_at "rd"
            refine ⟨_, _, _, _, rfl, rfl, .inl (.inl ht4), atI_nat (j := 1) rfl, ?_⟩
            walk_at "rd"
            refine ⟨d, _, rfl, get_some (k := x.1) hd4 ht4 lk, ?_⟩
            walk_at "rd"
            refine ⟨sz (by show 3 ≤ 100000; decide), fun u2 nu2 => ?_⟩
            have su2 := same_new nu2 (o := .tup [V.str x.1.1, V.str x.1.2, V.int x.2])
            have e1 : [x].filter (fun x : P2 × Int => decide (x.1.1 ≠ x.1.2)) = [x] := List.filter_eq_self.mpr fun y hy => by
              rw [List.mem_singleton.mp hy]
              exact decide_eq_true hne
            refine ⟨us, su2 _ _ hM, szl (by omega), us ++ [.ref u2], upd_same, ?_, by rw [List.length_append]; exact Nat.succ_le_succ hul, same_at nM (Same.trans s4 su2)⟩
            rw [tk, e1, List.map_append]
            exact da_lst (su2 _ _ hM) (da_snoc (dpAll_same su2 dM) (ct_dp (.inl (.inl upd_same))))
          · have heq : x.1.1 = x.1.2 := V.str.inj (ne_f h0)
            have e1 : [x].filter (fun x : P2 × Int => decide (x.1.1 ≠ x.1.2)) = [] := List.filter_eq_nil_iff.mpr fun y hy => by
              rw [List.mem_singleton.mp hy]
              exact fun z => of_decide_eq_true z heq
            refine ⟨us, hM, ?_, by omega, s4⟩
            rw [tk, e1, List.append_nil]
            exact dM
        · rintro H4 ⟨us, hM, dM, hul, s4⟩
          rw [hyl, List.take_length, ← hrow] at dM
          exact k _ H4 ⟨M, us, rfl, Same.trans suL (Same.trans sC s4), hM, dM⟩
    · have er : rowsOf (pls ns) cs = [(Str.ofString "", Str.ofString "", -1)] := if_neg eb
      rw [er]
      exact ⟨L, [.ref u], rfl, suL, upd_same, da_one (ct_dp (.inl (.inl (sL _ _ gu))))⟩
    · rintro _ H3 ⟨L3, xs, rfl, s3, hL3, dL3⟩
      have LY : Lay 2 (.list ((rowsOf (pls ns) cs).map ctD)) := lay_list (lay_cs hok)
      have hxl : xs.length = (rowsOf (pls ns) cs).length := by rw [da_len dL3, List.length_map]
      have hzl : zs.length = (rowsOf (pls ns) cs).length := by rw [da_len h5, List.length_map]
      have h13 := s3 _ _ h1
      have h43 := Bx.Same.tup s3 h4
      have hxz : zs.length ≤ 2000 := by
        rw [hzl]
        unfold M16.rowsOf
        split
        · unfold rows
          rw [List.length_map]
          refine Nat.le_trans (List.length_filter_le ..) ?_
          rw [List.length_mergeSort]
          exact sums_len (by show ns.length + 1 ≤ 9; omega) hcl
        · exact (by decide : 1 ≤ 2000)
      walk_at "rd"
      refine ⟨p, dx, _, t, zs, rfl, h13, r4 th d' _ t, h43, fun M nM => ?_⟩
      refine lc_it walk_tup (fun n H' => H' = upd H3 M (.lst (zs.take n))) rfl (fun n H' _ e => e ▸ Bx.Same.tup (same_new nM) h43) ?_ ?_
      · rintro n x H4 H4' hi rfl ⟨rfl, hx⟩
        refine ⟨rfl, ?_⟩
        walk_at "rd"
        refine ⟨_, upd_same, ?_, ?_⟩
        · rw [List.length_take]
          exact szl (by omega)
        · rw [upd_upd, List.take_add_one, hx]
          rfl
      rintro H4 rfl
      have sM := same_new nM (o := .lst (zs.take zs.length))
      have hM : (upd H3 M (.lst (zs.take zs.length))) M = some (.lst zs) := by rw [upd_same, List.take_length]
      generalize upd H3 M (.lst (zs.take zs.length)) = H4 at *
      have s4 := Same.trans s3 sM
      walk_at "rd"
      refine ⟨_, _, .lst (sq hM) (dpAll_same s4 h5), .lst (sq (sM _ _ hL3)) (dpAll_same sM dL3), shape LY (by decide), shape LY (by decide), ?_⟩
      rw [eq_refl LY]
      walk_at "rd"
      refine ⟨p, dx, _, rfl, s4 _ _ h1, ?_⟩
      show spLen K C _ _ _ _
      unfold spLen
      refine ⟨p, ns, cs, rfl, hD2.same s4, _, rfl, by rw [← hzl]; omega, ?_⟩
      walk_at "rd"
      refine ⟨L3, xs, rfl, .inl (sq (sM _ _ hL3)), ?_⟩
      rw [hxl]
      walk_at "rd"
      refine ite2 (fun h => absurd rfl (int_nt h)) (fun _ => ?_)
      have sF := s4
      have hL4 := sM _ _ hL3
      obtain ⟨na, ca, ws, ha, hn, hc, hdd⟩ := hT2.same s4
      clear s3 sM hL3 dL3 h13 h43 hM
      walk_at "rd"
      refine ⟨sz (by show 1 ≤ 100000; decide), fun L0 nL0 => ?_⟩
      have s0 := same_new nL0 (o := .lst [V.str (Str.ofString "")])
      walk_at "rd"
      refine ⟨_, _, _, _, rfl, rfl, Bx.Same.tup s0 ha, atI_nat (j := 0) rfl, ?_⟩
      walk_at "rd"
      refine ⟨na, _, rfl, .inr (Bx.Same.tup s0 hn), fun L1 nL1 => ?_⟩
      have s1 := same_new nL1 (o := .lst (ns.map V.str))
      refine ⟨L0, L1, _, _, rfl, rfl, s1 _ _ upd_same, upd_same, sz (by rw [List.length_map]; show 1 + ns.length ≤ 100000; omega), fun LE nL => ?_⟩
      have s2' := same_new nL (o := .lst ([V.str (Str.ofString "")] ++ ns.map V.str))
      have sB := Same.trans s0 (Same.trans s1 s2')
      have hL : (upd (upd (upd H4 L0 (.lst [V.str (Str.ofString "")])) L1 (.lst (ns.map V.str))) LE (.lst ([V.str (Str.ofString "")] ++ ns.map V.str))) LE = some (.lst ((pls ns).map V.str)) := upd_same
      generalize upd (upd (upd H4 L0 (.lst [V.str (Str.ofString "")])) L1 (.lst (ns.map V.str))) LE (.lst ([V.str (Str.ofString "")] ++ ns.map V.str)) = HB at sB hL ⊢
      have hDB := (hD2.same s4).same sB
      have hdB : Tb HB d (sums (pls ns) cs) := sB _ _ (s4 _ _ hd2)
      have sAll := Same.trans s12 (Same.trans s4 sB)
      walk_at "rd"
      refine ⟨⟨_, sq hL⟩, for_it walk_list (fun i σ H' => ∃ o6 o7 o8 o9 : Option V, σ = [some (.ref a), some (.ref p), some (.ref d), some (.bl (satB (pls ns) cs)), some (.ref L3), some (.ref LE), o6, o7, o8, o9] ∧ Same HB H') ⟨_, _, _, _, rfl, Same.refl _⟩ (fun i σ H' _ ⟨_, _, _, _, _, s⟩ => sq (s _ _ hL)) ?_ ?_⟩
      · rintro i v σ H5 H6 hi ⟨o6, o7, o8, o9, rfl, s5⟩ ⟨rfl, hx⟩
        obtain ⟨x, hxn, rfl⟩ := at_map hx
        walk_at "rd"
        refine ⟨⟨_, sq (s5 _ _ hL)⟩, for_it walk_list (fun i σ H' => ∃ o7 o8 o9 : Option V, σ = [some (.ref a), some (.ref p), some (.ref d), some (.bl (satB (pls ns) cs)), some (.ref L3), some (.ref LE), some (.str x), o7, o8, o9] ∧ Same HB H') ⟨_, _, _, rfl, s5⟩ (fun i σ H' _ ⟨_, _, _, _, s⟩ => sq (s _ _ hL)) ?_ ?_⟩
        · rintro j v σ H7 H8 hj ⟨o7, o8, o9, rfl, s7⟩ ⟨rfl, hy⟩
          obtain ⟨y, hyn, rfl⟩ := at_map hy
          walk_at "rd"
          show spDif K C _ _ _ _
          unfold spDif
          refine ⟨p, d, ns, cs, x, y, rfl, hDB.same s7, s7 _ _ hdB, fun H9 s9 => ?_⟩
          have s79 := Same.trans s7 s9
          have fol : ∀ {Q : VK}, (∀ H', Same H9 H' → Q (.bl true) H') → spFol K C [.ref p, .ref d, .bl (satB (pls ns) cs), .str x, .str y] H9 Q E0 := fun {Q} q => by
            unfold spFol
            exact ⟨p, d, ns, cs, x, y, rfl, hDB.same s79, s79 _ _ hdB, q⟩
          walk_at "rd"
          refine ite2 (fun hne => ?_) (fun heq => ?_)
          · walk_at "rd"
            refine fol fun H10 s10 => ⟨true, rfl, ite2 (fun h => absurd h (by decide)) fun _ => ?_⟩
            exact ⟨_, _, _, rfl, Same.trans s79 s10⟩
          · walk_at "rd"
            refine ite2 (fun h0 => ?_) (fun h0 => ?_)
            · walk_at "rd"
              refine fol fun H10 s10 => ⟨true, rfl, ite2 (fun h => absurd h (by decide)) fun _ => ?_⟩
              exact ⟨_, _, _, rfl, Same.trans s79 s10⟩
            · exact ⟨_, _, _, rfl, s79⟩
        · rintro σ H7 ⟨o7, o8, o9, rfl, s7⟩
          exact ⟨_, _, _, _, rfl, s7⟩
      · rintro σ H5 ⟨o6, o7, o8, o9, rfl, s5⟩
        walk_at "rd"
        exact q _ (Same.trans sAll s5)
end
end K16
namespace K16
local macro_rules | `(tactic| walk_at "rd") => `(tactic| repeat (first | refine ⟨rfl, ?_⟩ | refine ⟨_, rfl, ?_⟩ | refine ⟨_, _, rfl, rfl, ?_⟩ | refine ⟨⟨_, rfl⟩, ?_⟩))
open PySem PySem.Spec PyProof.Rows L2 Bx TL Dx Zx Ow Dt M16 Er Sup
section
variable {P : Program} {w : World} {K : PySem.W.Frag} {mg : Str → Option Value} {base : Heap}
/-- a theory whose tuples stand at known places -/
structure Th (K : PySem.W.Frag) (H : Hp) (T na ca : Addr) (xs : List V) (ns : List Str) (cs : List Ctr) : Prop where
  t : SqT K H T [.ref na, .ref ca]
  n : SqT K H na (ns.map V.str)
  c : SqT K H ca xs
  d : DpAll K H xs (cs.map ctD)
theorem Th.same {H H' : Hp} {T na ca : Addr} {xs : List V} {ns : List Str} {cs : List Ctr} (s : Same H H') (h : Th K H T na ca xs ns cs) : Th K H' T na ca xs ns cs := ⟨Bx.Same.tup s h.t, Bx.Same.tup s h.n, Bx.Same.tup s h.c, dpAll_same s h.d⟩
theorem Th.but {H H' : Hp} {u T na ca : Addr} {xs : List V} {ns : List Str} {cs : List Ctr} (hs : Src H u) (s : SameBut u H H') (h : Th K H T na ca xs ns cs) : Th K H' T na ca xs ns cs := ⟨sqt_but hs s h.t, sqt_but hs s h.n, sqt_but hs s h.c, da_but hs s h.d⟩
theorem Th.lst {H : Hp} {l T na ca : Addr} {ys : List V} {o : HO} {xs : List V} {ns : List Str} {cs : List Ctr} (hp : H l = some (.lst ys)) (h : Th K H T na ca xs ns cs) : Th K (upd H l o) T na ca xs ns cs := ⟨sqt_lst hp h.t, sqt_lst hp h.n, sqt_lst hp h.c, da_lst hp h.d⟩
theorem da_take {H : Hp} : ∀ {xs : List V} {ds : List PyData} (k : Nat), DpAll K H xs ds → DpAll K H (xs.take k) (ds.take k)
  | _, _, 0, _ => .nil
  | _, _, k + 1, .nil => .nil
  | _, _, k + 1, .cons h t => .cons h (da_take k t)
theorem da_at {H : Hp} : ∀ {cs : List Ctr} {xs : List V} {j : Nat}, DpAll K H xs (cs.map ctD) → j < cs.length → ∃ (u : Addr) (c : Ctr), xs[j]? = some (.ref u) ∧ cs[j]? = some c ∧ SqT K H u [.str c.1, .str c.2.1, .int c.2.2] := by
  intro cs
  induction cs with
  | nil => exact fun _ hj => absurd hj (Nat.not_lt_zero _)
  | cons c cs ih =>
    intro xs j h hj
    cases h with
    | cons h t =>
      cases j with
      | zero =>
        obtain ⟨a, rfl, ha⟩ := ct_inv h
        exact ⟨a, c, rfl, rfl, ha⟩
      | succ j => exact ih t (Nat.lt_of_succ_lt_succ hj)
theorem slice_of {H : Hp} {ca : Addr} {xs : List V} {k : Nat} {z : Int} (ez : z = (k : Int)) (hk : k ≤ xs.length) (hc : SqT K H ca xs) {Z : VK} (q : ∀ c' H', Same H H' → SqT K H' c' (xs.take k) → Z (.ref c') H') : rSlA K (.ref ca) none (some z) H Z := by
  subst ez
  refine ⟨ca, xs, rfl, hc, fun h => ?_, fun h p np => ?_⟩
  · have e : min k xs.length = xs.length := by
      rw [← HT.sIx_nat xs.length xs.length k]
      exact h.2
    refine q ca H (Same.refl H) ?_
    rw [List.take_of_length_le (by omega)]
    exact hc
  · refine q p _ (same_new np) ?_
    have e : cutV xs none (some (k : Int)) = xs.take k := by
      unfold cutV
      rw [HT.sIx_nat, HT.sIx_none, List.drop_zero, Nat.sub_zero, Nat.min_eq_left hk]
    rw [e]
    exact sqt upd_same
theorem take_map {cs : List Ctr} {H : Hp} {xs : List V} (k : Nat) (h : DpAll K H xs (cs.map ctD)) : DpAll K H (xs.take k) ((cs.take k).map ctD) := by
  rw [List.map_take]
  exact da_take k h
theorem last_at {os : List Addr} {i : Nat} (h : os.length = i + 1) : ∃ o, os[i]? = some o ∧ atI (os.map V.ref) (((os.map V.ref).length : Nat) - 1 : Int) = some (V.ref o) := by
  have hi : i < os.length := by omega
  refine ⟨os[i], List.getElem?_eq_getElem hi, ?_⟩
  have e : (((os.map V.ref).length : Nat) - 1 : Int) = (i : Int) := by
    rw [List.length_map, h]
    omega
  rw [e]
  exact atI_nat (by rw [List.getElem?_map, List.getElem?_eq_getElem hi]; rfl)
theorem ref_at {os : List Addr} {j : Nat} {o : Addr} (h : os[j]? = some o) : atI (os.map V.ref) (j : Int) = some (V.ref o) := atI_nat (by rw [List.getElem?_map, h]; rfl)
theorem rg_mem {m : Nat} {b : Int} {i : Nat} {v : V} (hb : 0 ≤ b ∧ b < m) (h : (rgV 0 (m : Int) ++ [V.int b])[i]? = some v) : ∃ j : Nat, j < m ∧ v = .int (j : Int) := by
  rcases List.mem_append.mp (List.mem_of_getElem? h) with h | h
  · unfold rgV at h
    obtain ⟨j, hj, rfl⟩ := List.mem_map.mp h
    have := List.mem_range.mp hj
    exact ⟨j, by omega, by rw [Int.zero_add]⟩
  · rw [List.mem_singleton.mp h]
    exact ⟨b.toNat, by omega, by rw [Int.toNat_of_nonneg hb.1]⟩
theorem pl_ok {ns : List Str} (h : ∀ n ∈ ns, n ∈ pool8) : ∀ x ∈ pls ns, PyData.strOk x = true := by
  intro x hx
  rcases List.mem_cons.mp hx with rfl | hx
  · decide +kernel
  · have : ∀ n ∈ pool8, PyData.strOk n = true := by decide +kernel
    exact this x (h x hx)
theorem rows_ok {ns : List Str} {cs : List Ctr} (h : ∀ n ∈ ns, n ∈ pool8) (hi : InPl ns cs) : ∀ c ∈ rowsOf (pls ns) cs, PyData.strOk c.1 = true ∧ PyData.strOk c.2.1 = true :=
  ak_rows (p := fun x => PyData.strOk x = true) (pl_ok h) (by decide +kernel) fun c hc => ⟨pl_ok h _ (hi c hc).1, pl_ok h _ (hi c hc).2⟩
theorem InPl.take {ns : List Str} {cs : List Ctr} (h : InPl ns cs) (k : Nat) : InPl ns (cs.take k) := fun c hc => h c (List.mem_of_mem_take hc)
def spLaw (K : PySem.W.Frag) : Sp := fun vs H Q _ => ∃ (a : Addr) (ns : List Int), vs = [.ref a] ∧ SqL K H a (ns.map V.int) ∧ ns.length ≤ 63 ∧ ∀ H', Q (.bl true) H'
theorem ok_law {C : Addr} {f : Addr} {fd : FuncData} (F : Fun K "law" "law" s_law f fd) (m_len : mg "len" = none) (m_list : mg "list" = none) (m_range : mg "range" = none)
    (P_satisfiable : PropC P w K mg base C "satisfiable" 1 (spSat K C)) (O___add__ : OwM P w K mg base CX0 C (PySem.dunder "add") 4 ["self", "other"] (spAdd K C)) (B___add__ : BinF K C .Add "tuple") (K_D : MkD P w K mg base C)
    (C__law_source : Cal P w K mg base "_law_source" 1 ["_law_script", "_law_k"] (spSource K)) (C__law_draw : CDraw P w K mg base) (C__law_constraint : Cal P w K mg base "_law_constraint" 3 ["_law_source_here", "_law_names"] (spCtr K)) (C__law_theory : Cal P w K mg base "_law_theory" 4 ["_law_source_here"] (spTheory K))
    (C__law_object_right : Cal P w K mg base "_law_object_right" 6 ["_law_theory_here", "_law_actual"] (spObj K C)) :
    FnOk P w K mg base CX0 7 f fd ["_law_script"] (spLaw K) := by
  refine F.ok sc_law (fun vs H Q E h => ?_) (fun cdv A outer s H vs Q E hr h => ?_)
  · unfold spLaw at h
    obtain ⟨a, ns, rfl, _⟩ := h
    rfl
  · unfold spLaw at h
    obtain ⟨a, sc, rfl, hs, hsl, q⟩ := h
    refine ⟨_, (pss_cons (ps_set (i := 1) sc_law.nd rfl (Or.inl rfl) (pe_cal C__law_source (hr.mono (by decide)) (pa_cons (pv 0) (pa_cons pe_int pa_nil))))
    (pss_cons (ps_set (i := 2) sc_law.nd rfl (Or.inl rfl) (pe_cal C__law_theory (hr.mono (by decide)) (pa_cons (pv 1) pa_nil)))
    (pss_cons (ps_set (i := 3) sc_law.nd rfl (Or.inl rfl) (pe_cal C__law_draw (hr.mono (by decide)) (pa_cons (pv 1) (pa_cons (pe_op op_add (pe_callB call_len_seq (by rfl) m_len PySem.boot_len (pa_cons (pe_ix ix_tup (pv 2) pe_int (fun _ _ => rfl)) pa_nil)) pe_int) pa_nil))))
    (pss_cons (ps_if (pt_cmpR op_eq (pe_cal C__law_draw (hr.mono (by decide)) (pa_cons (pv 1) (pa_cons pe_int pa_nil))) pe_int (nomark _))
      (pss_one (ps_set (i := 3) sc_law.nd rfl (Or.inl rfl) pe_int))
      pss_nil)
    (pss_cons (ps_set (i := 4) sc_law.nd rfl (Or.inl rfl) (pe_tup (pa_cons (pe_ix ix_tup (pv 2) pe_int (fun _ _ => rfl)) (pa_cons (pe_slice sl_tupA (pe_ix ix_tup (pv 2) pe_int (fun _ _ => rfl)) po_none (po_some (pv 3))) pa_nil))))
    (pss_cons (ps_set (i := 5) sc_law.nd rfl (Or.inl rfl) (pe_lst (pa_cons (pe_mak K_D (hr.mono (by decide)) (pa_cons (pv 4) pa_nil)) pa_nil)))
    (pss_cons (ps_set (i := 6) sc_law.nd rfl (Or.inl rfl) (pe_lst (pa_cons (pv 4) pa_nil)))
    (pss_cons (ps_for PassesOwn.never rfl (pi_range2 (by rfl) m_range (pa_cons (pv 3) (pa_cons (pe_callB call_len_seq (by rfl) m_len PySem.boot_len (pa_cons (pe_ix ix_tup (pv 2) pe_int (fun _ _ => rfl)) pa_nil)) pa_nil))) (pg_name (i := 7) sc_law.nd rfl (Or.inl rfl))
      (pss_cons (ps_expr (pe_bm PySem.F.plainAttrs_list PySem.F.slot_list_append PySem.F.type_list_append mt_append (pv 5) (pa_cons (pe_op (op_ownT (T := "tuple") O___add__ B___add__ (hr.mono (by decide))) (pe_ix ix_list (pv 5) (pe_op op_sub (pe_callB call_len_seq (by rfl) m_len PySem.boot_len (pa_cons (pv 5) pa_nil)) pe_int) (fun _ _ => rfl)) (pe_ix ix_tup (pe_ix ix_tup (pv 2) pe_int (fun _ _ => rfl)) (pv 7) (fun _ _ => rfl))) pa_nil)))
    (pss_cons (ps_set (i := 4) sc_law.nd rfl (Or.inl rfl) (pe_tup (pa_cons (pe_ix ix_tup (pv 2) pe_int (fun _ _ => rfl)) (pa_cons (pe_slice sl_tupA (pe_ix ix_tup (pv 2) pe_int (fun _ _ => rfl)) po_none (po_some (pe_op op_add (pv 7) pe_int))) pa_nil))))
    (pss_one (ps_expr (pe_bm PySem.F.plainAttrs_list PySem.F.slot_list_append PySem.F.type_list_append mt_append (pv 6) (pa_cons (pv 4) pa_nil)))))))
    (pss_cons (ps_set (i := 8) sc_law.nd rfl (Or.inl rfl) (pe_cal C__law_draw (hr.mono (by decide)) (pa_cons (pe_cal C__law_source (hr.mono (by decide)) (pa_cons (pv 0) (pa_cons pe_int pa_nil))) (pa_cons (pe_callB call_len_seq (by rfl) m_len PySem.boot_len (pa_cons (pv 5) pa_nil)) pa_nil))))
    (pss_cons (ps_for PassesOwn.never rfl (pi_list (pe_op op_cat (pe_listRg rfl (by rfl) m_list (prg_1 (by rfl) m_range (pe_callB call_len_seq (by rfl) m_len PySem.boot_len (pa_cons (pv 5) pa_nil)))) (pe_lst (pa_cons (pv 8) pa_nil)))) (pg_name (i := 7) sc_law.nd rfl (Or.inl rfl))
      (pss_one (ps_if (pt_not (pt_val (pe_cal C__law_object_right (hr.mono (by decide)) (pa_cons (pe_ix ix_list (pv 6) (pv 7) (fun _ _ => rfl)) (pa_cons (pe_ix ix_list (pv 5) (pv 7) (fun _ _ => rfl)) pa_nil)))))
      (pss_one (ps_ret pe_bl))
      pss_nil)))
    (pss_cons (ps_set (i := 9) sc_law.nd rfl (Or.inl rfl) (pe_op (op_ownT (T := "tuple") O___add__ B___add__ (hr.mono (by decide))) (pe_ix ix_list (pv 5) (pv 8) (fun _ _ => rfl)) (pe_cal C__law_constraint (hr.mono (by decide)) (pa_cons (pe_cal C__law_source (hr.mono (by decide)) (pa_cons (pv 0) (pa_cons pe_int pa_nil))) (pa_cons (pe_ix ix_tup (pv 2) pe_int (fun _ _ => rfl)) pa_nil)))))
    (pss_one (ps_ret (pe_and (pe_cmpR op_in_seq (pe_propC P_satisfiable (hr.mono (by decide)) (pv 9) rfl) (pe_lst (pa_cons pe_bl (pa_cons pe_bl pa_nil))) (by rfl)) (pe_one (pe_cal C__law_object_right (hr.mono (by decide)) (pa_cons (pe_ix ix_list (pv 6) (pv 8) (fun _ _ => rfl)) (pa_cons (pe_ix ix_list (pv 5) (pv 8) (fun _ _ => rfl)) pa_nil)))))))))))))))))), ?_⟩
    walk_at "rd"
    refine ⟨a, sc, 0, rfl, hs, by decide, fun src n0 c0 nsrc => ?_⟩
    have S0 := same_new nsrc (o := .lst [.int n0, .int c0])
    have hA0 : Src (upd H src (.lst [.int n0, .int c0])) src := ⟨n0, c0, upd_same⟩
    generalize upd H src (.lst [.int n0, .int c0]) = H0 at S0 hA0 ⊢
    walk_at "rd"
    show spTheory K _ _ _ _
    unfold spTheory
    refine ⟨src, rfl, hA0, fun T ns cs H1 s1 hA1 hT hnl hcl hin hpool => ?_⟩
    have S1 := SameBut.same S0 nsrc s1
    obtain ⟨na, ca, xs, t1, t2, t3, t4⟩ := hT
    have th1 : Th K H1 T na ca xs ns cs := ⟨t1, t2, t3, t4⟩
    clear t1 t2 t3 t4
    have hxl : xs.length = cs.length := by rw [da_len th1.d, List.length_map]
    walk_at "rd"
    refine ⟨_, _, _, _, rfl, rfl, th1.t, atI_nat (j := 1) rfl, ?_⟩
    walk_at "rd"
    refine ⟨_, _, rfl, .inr th1.c, ?_⟩
    walk_at "rd"
    refine draw_of hA1 (by constructor <;> omega) fun r0 H2 hr0 hr1 s2 hA2 => ?_
    have S2 := SameBut.same S1 nsrc s2
    have th2 := th1.but hA1 s2
    walk_at "rd"
    refine draw_of hA2 ⟨by decide, by decide⟩ fun r1 H3 _ _ s3 hA3 => ?_
    have S3 := SameBut.same S2 nsrc s3
    have th3 := th2.but hA2 s3
    walk_at "rd"
    refine if_asg (fun v H' => ∃ r : Nat, v = .int (r : Int) ∧ r ≤ cs.length ∧ Same H H' ∧ Th K H' T na ca xs ns cs) rfl (fun _ Z k => ?_) (fun _ => ?_) ?_
    · exact k _ _ ⟨0, rfl, Nat.zero_le _, S3, th3⟩
    · exact ⟨r0.toNat, by rw [Int.toNat_of_nonneg hr0], by omega, S3, th3⟩
    rintro _ H4 ⟨r, rfl, hrl, S4, th4⟩
    clear th1 th2 th3 S0 S1 S2 S3 s1 s2 s3 hA0 hA1 hA2 hA3 hr0 hr1
    walk_at "rd"
    refine ⟨_, _, _, _, rfl, rfl, th4.t, atI_nat (j := 0) rfl, ?_⟩
    walk_at "rd"
    refine ⟨_, _, _, _, rfl, rfl, th4.t, atI_nat (j := 1) rfl, ?_⟩
    walk_at "rd"
    refine slice_of (k := r) rfl (by omega) th4.c fun c5 H5 s5 hc5 => ?_
    have S5 := Same.trans S4 s5
    have th5 := th4.same s5
    walk_at "rd"
    refine ⟨sz (by show 2 ≤ 100000; decide), fun kn nkn => ?_⟩
    have s6 := same_new nkn (o := .tup [V.ref na, V.ref c5])
    have hk6 : ThAt K (upd H5 kn (.tup [V.ref na, V.ref c5])) kn ns (cs.take r) := ⟨na, c5, xs.take r, sqt upd_same, Bx.Same.tup s6 th5.n, Bx.Same.tup s6 hc5, take_map r (dpAll_same s6 th5.d)⟩
    have S6 := Same.trans S5 s6
    have th6 := th5.same s6
    generalize upd H5 kn (.tup [V.ref na, V.ref c5]) = H6 at hk6 S6 th6 ⊢
    clear th4 th5 S4 S5 s5 s6 hc5
    walk_at "rd"
    intro o dx no nd _
    have htl : (cs.take r).length ≤ 8 := by
      rw [List.length_take]
      omega
    refine init_of no nd hk6 hnl (by omega) fun H7 s7 hD7 => ⟨rfl, ?_⟩
    have S7 := Same.trans S6 s7
    have th7 := th6.same s7
    have hk7 := hk6.same s7
    walk_at "rd"
    refine ⟨sz (by show 1 ≤ 100000; decide), fun LO nLO => ?_⟩
    have s8 := same_new nLO (o := .lst [V.ref o])
    have hLO8 : (upd H7 LO (.lst [V.ref o])) LO = some (.lst ([o].map V.ref)) := upd_same
    have nLO0 : H LO = none := S7.free nLO
    have S8 := Same.trans S7 s8
    have hD8 := hD7.same s8
    have hk8 := hk7.same s8
    have th8 := th7.same s8
    generalize upd H7 LO (.lst [V.ref o]) = H8 at s8 hLO8 S8 hD8 hk8 th8 ⊢
    clear hk6 hk7 th6 th7 hD7 S6 S7 s7 s8 nLO no nd nkn
    walk_at "rd"
    refine ⟨sz (by show 1 ≤ 100000; decide), fun LT nLT => ?_⟩
    have s9 := same_new nLT (o := .lst [V.ref kn])
    have hLT9 : (upd H8 LT (.lst [V.ref kn])) LT = some (.lst ([kn].map V.ref)) := upd_same
    have nLT0 : H LT = none := S8.free nLT
    have nOT : LO ≠ LT := fun e => by rw [e, nLT] at hLO8; cases hLO8
    have S9 := Same.trans S8 s9
    have hD9 := hD8.same s9
    have hk9 := hk8.same s9
    have th9 := th8.same s9
    have hLO9 := s9 _ _ hLO8
    generalize upd H8 LT (.lst [V.ref kn]) = H9 at s9 hLO9 hLT9 S9 hD9 hk9 th9 ⊢
    clear hk8 th8 hD8 S8 s9 nLT hLO8
    walk_at "rd"
    refine ⟨_, _, _, _, rfl, rfl, th9.t, atI_nat (j := 1) rfl, ?_⟩
    walk_at "rd"
    refine ⟨_, _, rfl, .inr th9.c, ?_⟩
    refine ⟨_, _, rfl, ⟨by omega, by omega, by omega, by omega⟩, for_it walk_range (fun i σ H' => ∃ (kn' : Addr) (o7 : Option V) (os ts : List Addr), σ = [some (.ref a), some (.ref src), some (.ref T), some (.int (r : Int)), some (.ref kn'), some (.ref LO), some (.ref LT), o7, none, none] ∧
      Same H H' ∧ Th K H' T na ca xs ns cs ∧ H' LO = some (.lst (os.map V.ref)) ∧ H' LT = some (.lst (ts.map V.ref)) ∧ os.length = i + 1 ∧ ts.length = i + 1 ∧ (∀ j o, os[j]? = some o → DifAt K C H' o ns (cs.take (r + j))) ∧ (∀ j t, ts[j]? = some t → ThAt K H' t ns (cs.take (r + j))))
      ⟨kn, none, [o], [kn], rfl, S9, th9, hLO9, hLT9, rfl, rfl, (fun j o' h => ?_), (fun j t h => ?_)⟩ (fun _ _ _ _ _ => trivial) ?_ ?_⟩
    · cases j with
      | zero => cases h; exact hD9
      | succ j => cases h
    · cases j with
      | zero => cases h; exact hk9
      | succ j => cases h
    · clear hD9 hk9 th9 S9 hLO9 hLT9
      rintro i z σ G1 G1' hi ⟨kn', o7, os, ts, rfl, S, th, hO, hT, hol, htl', hD, hK⟩ ⟨rfl, rfl⟩
      have hri : r + i < cs.length := by omega
      obtain ⟨ol, ho, ao⟩ := last_at hol
      obtain ⟨u, c, hu, hc, hut⟩ := da_at th.d hri
      have hDl := hD i ol ho
      walk_at "rd"
      refine ⟨.inl ⟨rfl, _, sq hO⟩, ?_⟩
      walk_at "rd"
      refine ⟨_, _, rfl, .inl (sq hO), ?_⟩
      walk_at "rd"
      refine ⟨_, _, _, _, rfl, rfl, sq hO, ao, ?_⟩
      walk_at "rd"
      refine ⟨_, _, _, _, rfl, rfl, th.t, atI_nat (j := 1) rfl, ?_⟩
      walk_at "rd"
      refine ⟨_, _, _, _, rfl, rfl, th.c, (by have e : ((r : Int) + (i : Int)) = ((r + i : Nat) : Int) := by omega
                                              rw [e]; exact atI_nat hu), ?_⟩
      obtain ⟨dx', th', d', t', zs', e1, e2⟩ := id hDl
      refine ⟨ol, dx', _, rfl, e1, .tup hut, ?_⟩
      show spAdd K C _ _ _ _
      unfold spAdd
      refine ⟨ol, u, ns, cs.take (r + i), c, rfl, hDl, hut, hnl, by rw [List.length_take]; omega, fun x G2 s2 nx hDx => ?_⟩
      have ec : cs.take (r + i) ++ [c] = cs.take (r + (i + 1)) := by
        show _ = cs.take (r + i + 1)
        rw [List.take_add_one, hc]
        rfl
      rw [ec] at hDx
      clear e1 e2 hDl
      have S2 := Same.trans S s2
      have th2 := th.same s2
      have hO2 := s2 _ _ hO
      have hT2 := s2 _ _ hT
      have hD2 : ∀ j o, os[j]? = some o → DifAt K C G2 o ns (cs.take (r + j)) := fun j o h => (hD j o h).same s2
      have hK2 : ∀ j o, ts[j]? = some o → ThAt K G2 o ns (cs.take (r + j)) := fun j o h => (hK j o h).same s2
      walk_at "rd"
      refine ⟨LO, _, _, rfl, rfl, hO2, szl (by rw [List.length_map]; omega), ?_⟩
      have hO3 : (upd G2 LO (.lst (os.map V.ref ++ [.ref x]))) LO = some (.lst ((os ++ [x]).map V.ref)) := by
        rw [upd_same, List.map_append]
        rfl
      have hT3 : (upd G2 LO (.lst (os.map V.ref ++ [.ref x]))) LT = some (.lst (ts.map V.ref)) := by
        rw [upd_ne nOT.symm]
        exact hT2
      have S3 : Same H (upd G2 LO (.lst (os.map V.ref ++ [.ref x]))) := same_at nLO0 S2
      have th3 := th2.lst (o := .lst (os.map V.ref ++ [.ref x])) hO2
      have hD3 : ∀ j o, (os ++ [x])[j]? = some o → DifAt K C (upd G2 LO (.lst (os.map V.ref ++ [.ref x]))) o ns (cs.take (r + j)) := fun j o h => by
        by_cases hj : j < os.length
        · rw [List.getElem?_append_left hj] at h
          exact (hD2 j o h).lst hO2
        · rw [List.getElem?_append_right (by omega)] at h
          have : j - os.length = 0 := by
            have := (List.getElem?_eq_some_iff.mp h).1
            have e : [x].length = 1 := rfl
            omega
          rw [this] at h
          cases h
          have : j = i + 1 := by omega
          rw [this]
          exact hDx.lst hO2
      have hK3 : ∀ j o, ts[j]? = some o → ThAt K (upd G2 LO (.lst (os.map V.ref ++ [.ref x]))) o ns (cs.take (r + j)) := fun j o h => (hK2 j o h).lst hO2
      generalize upd G2 LO (.lst (os.map V.ref ++ [.ref x])) = G3 at *
      clear hO2 hT2 hD2 hK2 th2 S2 hDx hD hK hO hT th S ao ho nx s2 hut
      walk_at "rd"
      refine ⟨_, _, _, _, rfl, rfl, th3.t, atI_nat (j := 0) rfl, ?_⟩
      walk_at "rd"
      refine ⟨_, _, _, _, rfl, rfl, th3.t, atI_nat (j := 1) rfl, ?_⟩
      walk_at "rd"
      refine slice_of (k := r + (i + 1)) (by omega) (by omega) th3.c fun c5 G4 s4 hc5 => ?_
      walk_at "rd"
      refine ⟨sz (by show 2 ≤ 100000; decide), fun k2 nk2 => ?_⟩
      have s5 := same_new nk2 (o := .tup [V.ref na, V.ref c5])
      have th4 := th3.same s4
      have hk5 : ThAt K (upd G4 k2 (.tup [V.ref na, V.ref c5])) k2 ns (cs.take (r + (i + 1))) := ⟨na, c5, xs.take (r + (i + 1)), sqt upd_same, Bx.Same.tup s5 th4.n, Bx.Same.tup s5 hc5, take_map _ (dpAll_same s5 th4.d)⟩
      have s35 := Same.trans s4 s5
      have hO5 := s35 _ _ hO3
      have hT5 := s35 _ _ hT3
      have S5 := Same.trans S3 s35
      have th5 := th3.same s35
      have hD5 : ∀ j o, (os ++ [x])[j]? = some o → DifAt K C (upd G4 k2 (.tup [V.ref na, V.ref c5])) o ns (cs.take (r + j)) := fun j o h => (hD3 j o h).same s35
      have hK5 : ∀ j o, ts[j]? = some o → ThAt K (upd G4 k2 (.tup [V.ref na, V.ref c5])) o ns (cs.take (r + j)) := fun j o h => (hK3 j o h).same s35
      generalize upd G4 k2 (.tup [V.ref na, V.ref c5]) = G5 at *
      walk_at "rd"
      refine ⟨.inl ⟨rfl, _, sq hT5⟩, ?_⟩
      walk_at "rd"
      refine ⟨LT, _, _, rfl, rfl, hT5, szl (by rw [List.length_map]; omega), ?_⟩
      refine ⟨k2, _, os ++ [x], ts ++ [k2], rfl, same_at nLT0 S5, th5.lst hT5, by rw [upd_ne nOT]; exact hO5, by rw [upd_same, List.map_append]; rfl, by rw [List.length_append, hol]; rfl, by rw [List.length_append, htl']; rfl, fun j o h => (hD5 j o h).lst hT5, fun j o h => ?_⟩
      by_cases hj : j < ts.length
      · rw [List.getElem?_append_left hj] at h
        exact (hK5 j o h).lst hT5
      · rw [List.getElem?_append_right (by omega)] at h
        have : j - ts.length = 0 := by
          have := (List.getElem?_eq_some_iff.mp h).1
          have e : [k2].length = 1 := rfl
          omega
        rw [this] at h
        cases h
        have : j = i + 1 := by omega
        rw [this]
        exact hk5.lst hT5
    · clear hD9 hk9 th9 S9 hLO9 hLT9
      rintro σ G1 ⟨kn', o7, os, ts, rfl, S, th, hO, hT, hol, htl', hD, hK⟩
      have hos : os.length ≤ 9 := by omega
      have h0s : 0 < os.length := by omega
      have hts : ts.length = os.length := by omega
      have hok : ∀ k, ∀ c ∈ rowsOf (pls ns) (cs.take k), PyData.strOk c.1 = true ∧ PyData.strOk c.2.1 = true := fun k => rows_ok hpool (hin.take k)
      clear hol htl'
      walk_at "rd"
      refine ⟨a, sc, 1, rfl, S.seq hs, by decide, fun p9 n9 c9 np9 => ?_⟩
      have s9 := same_new np9 (o := .lst [.int n9, .int c9])
      have hA9 : Src (upd G1 p9 (.lst [.int n9, .int c9])) p9 := ⟨n9, c9, upd_same⟩
      walk_at "rd"
      refine ⟨_, _, rfl, .inl (sq (s9 _ _ hO)), ?_⟩
      refine draw_of hA9 (by rw [List.length_map]; constructor <;> omega) fun ag G2 ag0 ag1 sb hA2 => ?_
      rw [List.length_map] at ag1
      have s2 := SameBut.same s9 np9 sb
      have S2 := Same.trans S s2
      have th2 := th.same s2
      have hO2 := s2 _ _ hO
      have hT2 := s2 _ _ hT
      have hD2 : ∀ j o, os[j]? = some o → DifAt K C G2 o ns (cs.take (r + j)) := fun j o h => (hD j o h).same s2
      have hK2 : ∀ j o, ts[j]? = some o → ThAt K G2 o ns (cs.take (r + j)) := fun j o h => (hK j o h).same s2
      clear hA9 hA2 sb s9 np9 s2 S th hO hT hD hK
      obtain ⟨k0, rfl⟩ := Int.eq_ofNat_of_zero_le ag0
      have hk0 : k0 < os.length := by omega
      have both : ∀ j, j < os.length → ∃ o t, os[j]? = some o ∧ ts[j]? = some t := fun j hj => ⟨os[j], ts[j], List.getElem?_eq_getElem hj, List.getElem?_eq_getElem (by omega)⟩
      walk_at "rd"
      refine ⟨_, _, rfl, .inl (sq hO2), ?_⟩
      rw [List.length_map]
      walk_at "rd"
      refine ⟨RgOk.of_le (by omega) (by omega) (by omega) (by omega), fun q1 nq1 => ?_⟩
      have u1 := same_new nq1 (o := .lst (rgV 0 (os.length : Int)))
      walk_at "rd"
      refine ⟨sz (by show 1 ≤ 100000; decide), fun q2 nq2 => ?_⟩
      have u2 := same_new nq2 (o := .lst [V.int (k0 : Int)])
      refine ⟨q1, q2, _, _, rfl, rfl, u2 _ _ upd_same, upd_same, sz (by rw [rgV_length]; show ((os.length : Int) - 0).toNat + 1 ≤ 100000; omega), fun q3 nq3 => ?_⟩
      have u3 := same_new nq3 (o := .lst (rgV 0 (os.length : Int) ++ [V.int (k0 : Int)]))
      have uA := Same.trans u1 (Same.trans u2 u3)
      have hq3 := upd_same (H := upd (upd G2 q1 (.lst (rgV 0 (os.length : Int)))) q2 (.lst [V.int (k0 : Int)])) (a := q3) (o := .lst (rgV 0 (os.length : Int) ++ [V.int (k0 : Int)]))
      generalize upd (upd (upd G2 q1 (.lst (rgV 0 (os.length : Int)))) q2 (.lst [V.int (k0 : Int)])) q3 (.lst (rgV 0 (os.length : Int) ++ [V.int (k0 : Int)])) = G3 at uA hq3 ⊢
      have S3 := Same.trans S2 uA
      have th3 := th2.same uA
      have hO3 := uA _ _ hO2
      have hT3 := uA _ _ hT2
      have hD3 : ∀ j o, os[j]? = some o → DifAt K C G3 o ns (cs.take (r + j)) := fun j o h => (hD2 j o h).same uA
      have hK3 : ∀ j o, ts[j]? = some o → ThAt K G3 o ns (cs.take (r + j)) := fun j o h => (hK2 j o h).same uA
      clear u1 u2 u3 uA nq1 nq2 nq3 S2 th2 hO2 hT2 hD2 hK2
      walk_at "rd"
      refine ⟨⟨_, sq hq3⟩, for_it walk_list (fun i σ H' => ∃ o7 : Option V, σ = [some (.ref a), some (.ref src), some (.ref T), some (.int (r : Int)), some (.ref kn'), some (.ref LO), some (.ref LT), o7, some (.int (k0 : Int)), none] ∧ Same G3 H') ⟨_, rfl, Same.refl _⟩ (fun i σ H' _ ⟨_, _, s⟩ => sq (s _ _ hq3)) ?_ ?_⟩
      · rintro i v σ G4 G4' hi ⟨o7', rfl, s4⟩ ⟨rfl, hx⟩
        obtain ⟨j, hj, rfl⟩ := rg_mem ⟨ag0, ag1⟩ hx
        obtain ⟨oj, tj, ho, ht⟩ := both j hj
        walk_at "rd"
        refine ⟨_, _, _, _, rfl, rfl, sq (s4 _ _ hT3), ref_at ht, ?_⟩
        walk_at "rd"
        refine ⟨_, _, _, _, rfl, rfl, sq (s4 _ _ hO3), ref_at ho, ?_⟩
        show spObj K C _ _ _ _
        unfold spObj
        refine ⟨tj, oj, ns, cs.take (r + j), rfl, (hK3 j tj ht).same s4, (hD3 j oj ho).same s4, hnl, by rw [List.length_take]; omega, hok _, fun G5 s5 => ⟨true, rfl, ite2 (fun h => absurd h (by decide)) fun _ => ?_⟩⟩
        exact ⟨_, rfl, Same.trans s4 s5⟩
      · rintro σ G4 ⟨o7', rfl, s4⟩
        obtain ⟨oj, tj, ho, ht⟩ := both k0 hk0
        have S4 := Same.trans S3 s4
        have th4 := th3.same s4
        have hO4 := s4 _ _ hO3
        have hT4 := s4 _ _ hT3
        have hD4 := (hD3 k0 oj ho).same s4
        have hK4 := (hK3 k0 tj ht).same s4
        clear S3 th3 hO3 hT3 hD3 hK3 s4 hq3
        walk_at "rd"
        refine ⟨_, _, _, _, rfl, rfl, sq hO4, ref_at ho, ?_⟩
        walk_at "rd"
        refine ⟨a, sc, 2, rfl, S4.seq hs, by decide, fun p8 n8 c8 np8 => ?_⟩
        have s8 := same_new np8 (o := .lst [.int n8, .int c8])
        have hA8 : Src (upd G4 p8 (.lst [.int n8, .int c8])) p8 := ⟨n8, c8, upd_same⟩
        walk_at "rd"
        refine ⟨_, _, _, _, rfl, rfl, Bx.Same.tup s8 th4.t, atI_nat (j := 0) rfl, ?_⟩
        walk_at "rd"
        show spCtr K _ _ _ _
        unfold spCtr
        refine ⟨p8, na, ns, rfl, hA8, .inr (Bx.Same.tup s8 th4.n), hnl, fun pc c G5 sb hA5 npc hpc _ _ => ?_⟩
        have s5 := SameBut.same s8 np8 sb
        have hD5 := hD4.same s5
        have hK5 := hK4.same s5
        have hO5 := s5 _ _ hO4
        have hT5 := s5 _ _ hT4
        clear hA8 hA5 sb s8 np8 s5 hD4 hK4 hO4 hT4 th4 S4
        obtain ⟨dx', th', d', t', zs', e1, e2⟩ := id hD5
        refine ⟨oj, dx', _, rfl, e1, .tup (sqt hpc), ?_⟩
        show spAdd K C _ _ _ _
        unfold spAdd
        refine ⟨oj, pc, ns, cs.take (r + k0), c, rfl, hD5, sqt hpc, hnl, by rw [List.length_take]; omega, fun x G6 s6 nx hDx => ?_⟩
        have hD6 := hD5.same s6
        have hK6 := hK5.same s6
        have hO6 := s6 _ _ hO5
        have hT6 := s6 _ _ hT5
        clear e1 e2 hD5 hK5 hO5 hT5 s6
        obtain ⟨dy, ty, dy', ty', zy', e1, e2⟩ := id hDx
        walk_at "rd"
        refine ⟨x, dy, _, rfl, e1, ?_⟩
        show spSat K C _ _ _ _
        unfold spSat
        refine ⟨x, ns, _, rfl, hDx, ?_⟩
        generalize satB (pls ns) (cs.take (r + k0) ++ [c]) = b
        walk_at "rd"
        refine ⟨sz (by show 2 ≤ 100000; decide), fun lb nlb => ?_⟩
        have sb := same_new nlb (o := .lst [V.bl true, V.bl false])
        refine ⟨lb, _, rfl, .inl (sq upd_same), rfl, rfl, ?_⟩
        have eb : inV (V.bl b) [V.bl true, V.bl false] = true := by cases b <;> rfl
        rw [eb]
        walk_at "rd"
        refine ⟨_, _, _, _, rfl, rfl, sq (sb _ _ hT6), ref_at ht, ?_⟩
        walk_at "rd"
        refine ⟨_, _, _, _, rfl, rfl, sq (sb _ _ hO6), ref_at ho, ?_⟩
        show spObj K C _ _ _ _
        unfold spObj
        exact ⟨tj, oj, ns, cs.take (r + k0), rfl, hK6.same sb, hD6.same sb, hnl, by rw [List.length_take]; omega, hok _, fun G7 s7 => q G7⟩
end
end K16
namespace K16
open PySem PySem.Spec PyProof.Rows L2 Bx TL Dx Zx Ow Dt M16 Er Sup
theorem kit_t {K : PySem.W.Frag} {C D : Addr} {cd : ClassData} (c : PySem.W.clsIn K D = some cd) (t : PySem.W.typeIn K (.ref D) = some (.type "type")) (s : PySem.W.subIn K (.ref C) (.ref D) = some true) : PySem.W.kitOne K (.ref C) (.ref D) = some true := by
  unfold PySem.W.kitOne PySem.W.kitCls
  split
  · rfl
  · show (if ((PySem.W.clsIn K D).isSome && PySem.W.typeIn K (.ref D) == some (.type "type")) = true then PySem.W.subIn K (.ref C) (.ref D) else none) = _
    rw [if_pos (by rw [c, t]; rfl)]
    exact s
theorem kit_exm {K : PySem.W.Frag} {C : Addr} {cd : ClassData} (b : PySem.W.subIn K (.ref C) (.type "BaseException") = some true) (c : PySem.W.clsIn K C = some cd) (t : PySem.W.typeIn K (.ref C) = some (.type "type")) (s : PySem.W.subIn K (.ref C) (.ref C) = some true) : PySem.W.exmOne K (.ref C) (.ref C) = some true := by
  show (if (PySem.W.subIn K (.ref C) (.type "BaseException") == some true) = true then (if ((PySem.W.clsIn K C).isSome && PySem.W.typeIn K (.ref C) == some (.type "type")) = true then PySem.W.subIn K (.ref C) (.ref C) else none) else none) = _
  rw [if_pos (by rw [b]; rfl), if_pos (by rw [c, t]; rfl)]
  exact s
set_option maxHeartbeats 4000000 in
theorem all_mk {l : PySem.W.OpenLaw} {w : World} {K : PySem.W.Frag} {h : Heap} {mg : Str → Option Value} {fa : Addr} (X : K.In h) (G : h.Ns mainGlobals mg) (hfa : mg "law" = some (.ref fa))
    {C CF SE p_sat : Addr} {rs_sat : List Value} {cdF cdS : ClassData} {i_fo i_ro : Option Value}
    {f_sat : Addr} {oc_sat kV_sat dc_sat pm_sat cd_sat ct_sat : Value} {od_sat an_sat : Option Addr} {sl_sat : Array (Option Value)}
    {f_init : Addr} {oc_init kV_init dc_init pm_init cd_init ct_init : Value} {od_init an_init : Option Addr} {sl_init : Array (Option Value)}
    {f_M__len__ : Addr} {oc_M__len__ kV_M__len__ dc_M__len__ pm_M__len__ cd_M__len__ ct_M__len__ : Value} {od_M__len__ an_M__len__ : Option Addr} {sl_M__len__ : Array (Option Value)}
    {f_M__contains__ : Addr} {oc_M__contains__ kV_M__contains__ dc_M__contains__ pm_M__contains__ cd_M__contains__ ct_M__contains__ : Value} {od_M__contains__ an_M__contains__ : Option Addr} {sl_M__contains__ : Array (Option Value)}
    {f_M__getitem__ : Addr} {oc_M__getitem__ kV_M__getitem__ dc_M__getitem__ pm_M__getitem__ cd_M__getitem__ ct_M__getitem__ : Value} {od_M__getitem__ an_M__getitem__ : Option Addr} {sl_M__getitem__ : Array (Option Value)}
    {f_M__iter__ : Addr} {oc_M__iter__ kV_M__iter__ dc_M__iter__ pm_M__iter__ cd_M__iter__ ct_M__iter__ : Value} {od_M__iter__ an_M__iter__ : Option Addr} {sl_M__iter__ : Array (Option Value)}
    {f_M__add__ : Addr} {oc_M__add__ kV_M__add__ dc_M__add__ pm_M__add__ cd_M__add__ ct_M__add__ : Value} {od_M__add__ an_M__add__ : Option Addr} {sl_M__add__ : Array (Option Value)}
    {f__least_sums : Addr} {oc__least_sums kV__least_sums dc__least_sums pm__least_sums cd__least_sums ct__least_sums : Value} {od__least_sums an__least_sums : Option Addr} {sl__least_sums : Array (Option Value)}
    {f__normal_rows : Addr} {oc__normal_rows kV__normal_rows dc__normal_rows pm__normal_rows cd__normal_rows ct__normal_rows : Value} {od__normal_rows an__normal_rows : Option Addr} {sl__normal_rows : Array (Option Value)}
    {f__law_source : Addr} {oc__law_source kV__law_source dc__law_source pm__law_source cd__law_source ct__law_source : Value} {od__law_source an__law_source : Option Addr} {sl__law_source : Array (Option Value)}
    {f__law_draw : Addr} {oc__law_draw kV__law_draw dc__law_draw pm__law_draw cd__law_draw ct__law_draw : Value} {od__law_draw an__law_draw : Option Addr} {sl__law_draw : Array (Option Value)}
    {f__law_some : Addr} {oc__law_some kV__law_some dc__law_some pm__law_some cd__law_some ct__law_some : Value} {od__law_some an__law_some : Option Addr} {sl__law_some : Array (Option Value)}
    {f__law_bound : Addr} {oc__law_bound kV__law_bound dc__law_bound pm__law_bound cd__law_bound ct__law_bound : Value} {od__law_bound an__law_bound : Option Addr} {sl__law_bound : Array (Option Value)}
    {f__law_constraint : Addr} {oc__law_constraint kV__law_constraint dc__law_constraint pm__law_constraint cd__law_constraint ct__law_constraint : Value} {od__law_constraint an__law_constraint : Option Addr} {sl__law_constraint : Array (Option Value)}
    {f__law_theory : Addr} {oc__law_theory kV__law_theory dc__law_theory pm__law_theory cd__law_theory ct__law_theory : Value} {od__law_theory an__law_theory : Option Addr} {sl__law_theory : Array (Option Value)}
    {f__law_sums : Addr} {oc__law_sums kV__law_sums dc__law_sums pm__law_sums cd__law_sums ct__law_sums : Value} {od__law_sums an__law_sums : Option Addr} {sl__law_sums : Array (Option Value)}
    {f__law_satisfiable : Addr} {oc__law_satisfiable kV__law_satisfiable dc__law_satisfiable pm__law_satisfiable cd__law_satisfiable ct__law_satisfiable : Value} {od__law_satisfiable an__law_satisfiable : Option Addr} {sl__law_satisfiable : Array (Option Value)}
    {f__law_is_int : Addr} {oc__law_is_int kV__law_is_int dc__law_is_int pm__law_is_int cd__law_is_int ct__law_is_int : Value} {od__law_is_int an__law_is_int : Option Addr} {sl__law_is_int : Array (Option Value)}
    {f__law_difference_right : Addr} {oc__law_difference_right kV__law_difference_right dc__law_difference_right pm__law_difference_right cd__law_difference_right ct__law_difference_right : Value} {od__law_difference_right an__law_difference_right : Option Addr} {sl__law_difference_right : Array (Option Value)}
    {f__law_follows_right : Addr} {oc__law_follows_right kV__law_follows_right dc__law_follows_right pm__law_follows_right cd__law_follows_right ct__law_follows_right : Value} {od__law_follows_right an__law_follows_right : Option Addr} {sl__law_follows_right : Array (Option Value)}
    {f__law_object_right : Addr} {oc__law_object_right kV__law_object_right dc__law_object_right pm__law_object_right cd__law_object_right ct__law_object_right : Value} {od__law_object_right an__law_object_right : Option Addr} {sl__law_object_right : Array (Option Value)}
    {f_law : Addr} {oc_law kV_law dc_law pm_law cd_law ct_law : Value} {od_law an_law : Option Addr} {sl_law : Array (Option Value)}
    (aC : PySem.W.nsIn K mainGlobals "Differences" = some (some (.ref C)))
    (aF : PySem.W.nsIn K mainGlobals "NoSolution" = some (some (.ref CF)))
    (aS : PySem.W.nsIn K mainGlobals "ShadowError" = some (some (.ref SE)))
    (pg : PySem.W.plainGet K C Str.empty = true)
    (hd : PySem.W.hasDictIn K C = true)
    (po : PySem.W.plainOver K C = true)
    (sa : PySem.W.findIn K (.ref C) "__setattr__" = some (some (.builtin "object.__setattr__")))
    (mk : PySem.W.makesIn K C = true)
    (kc : PySem.W.keepIn K (.ref C) = true)
    (n1 : PySem.W.findIn K (.ref C) "_theory" = some none)
    (n2 : PySem.W.findIn K (.ref C) "_greatest" = some none)
    (n3 : PySem.W.findIn K (.ref C) "_satisfiable" = some none)
    (n4 : PySem.W.findIn K (.ref C) "_rows" = some none)
    (hf1 : PySem.W.selfFirst K C = true)
    (i1 : PySem.W.findIn K (.type "tuple") "__add__" = some i_fo)
    (i2 : PySem.W.findIn K (.type "tuple") "__radd__" = some i_ro)
    (i3 : PySem.W.findIn K (.ref C) "__radd__" = some none)
    (hsb2 : PySem.W.subIn K (.type "tuple") (.ref C) = some false)
    (xF : PySem.W.excIn K CF [.type "ValueError", .type "Exception", .type "BaseException", .type "object"] "ValueError.__new__" = true)
    (kF : PySem.W.keepIn K (.ref CF) = true)
    (bF : PySem.W.subIn K (.ref CF) (.type "BaseException") = some true)
    (tF : PySem.W.typeIn K (.ref CF) = some (.type "type"))
    (clF : PySem.W.clsIn K CF = some cdF)
    (clS : PySem.W.clsIn K SE = some cdS)
    (tS : PySem.W.typeIn K (.ref SE) = some (.type "type"))
    (ssF : PySem.W.subIn K (.ref CF) (.ref CF) = some true)
    (suS : PySem.W.subIn K (.ref CF) (.ref SE) = some true)
    (gaF : PySem.W.findIn K (.ref CF) "__getattribute__" = some (some (.builtin "BaseException.__getattribute__")))
    (ggF : PySem.W.findIn K (.ref CF) "__getattr__" = some none)
    (hdF : PySem.W.hasDictIn K CF = true)
    (gcF : PySem.W.findIn K (.ref CF) "__class__" = some (some (.builtin "object.__class__")))
    (sp_ : PySem.W.specialIn K (.builtin "object.__class__") "__get__" = some (some (.builtin "getset_descriptor.__get__")))
    (tk_ : PySem.W.takesIn K (.builtin "object.__class__") = some true)
    (moF : PySem.W.mroIn K CF (.type "object") = some true)
    (ap_ : PySem.W.findIn K (.ref C) "satisfiable" = some (some (.ref p_sat)))
    (sp2 : PySem.W.specialIn K (.ref p_sat) "__get__" = some (some (.builtin "property.__get__")))
    (tk2 : PySem.W.takesIn K (.ref p_sat) = some true)
    (rc2 : PySem.W.recIn K p_sat "property" = some (.ref f_sat :: rs_sat))
    (l_sat : K.lookup f_sat = some ⟨oc_sat, od_sat, .func (PySem.W.fnOf "satisfiable" "Differences.satisfiable" (defArgs s_Differences_satisfiable) (defBody s_Differences_satisfiable) (defScope s_Differences_satisfiable) .none kV_sat dc_sat pm_sat an_sat cd_sat ct_sat), sl_sat⟩) (c_sat : PySem.W.codeIn K cd_sat "Differences.satisfiable" = true) (k_sat : PySem.W.keepIn K (.ref f_sat) = true)
    (a_init : PySem.W.findIn K (.ref C) "__init__" = some (some (.ref f_init))) (l_init : K.lookup f_init = some ⟨oc_init, od_init, .func (PySem.W.fnOf "__init__" "Differences.__init__" (defArgs s_Differences___init__) (defBody s_Differences___init__) (defScope s_Differences___init__) .none kV_init dc_init pm_init an_init cd_init ct_init), sl_init⟩) (c_init : PySem.W.codeIn K cd_init "Differences.__init__" = true) (k_init : PySem.W.keepIn K (.ref f_init) = true)
    (fi_init : PySem.W.isFn K (.ref f_init) = true)
    (a_M__len__ : PySem.W.findIn K (.ref C) "__len__" = some (some (.ref f_M__len__))) (l_M__len__ : K.lookup f_M__len__ = some ⟨oc_M__len__, od_M__len__, .func (PySem.W.fnOf "__len__" "Differences.__len__" (defArgs s_Differences___len__) (defBody s_Differences___len__) (defScope s_Differences___len__) .none kV_M__len__ dc_M__len__ pm_M__len__ an_M__len__ cd_M__len__ ct_M__len__), sl_M__len__⟩) (c_M__len__ : PySem.W.codeIn K cd_M__len__ "Differences.__len__" = true) (k_M__len__ : PySem.W.keepIn K (.ref f_M__len__) = true)
    (i_M__len__ : PySem.W.isFn K (.ref f_M__len__) = true)
    (a_M__contains__ : PySem.W.findIn K (.ref C) "__contains__" = some (some (.ref f_M__contains__))) (l_M__contains__ : K.lookup f_M__contains__ = some ⟨oc_M__contains__, od_M__contains__, .func (PySem.W.fnOf "__contains__" "Differences.__contains__" (defArgs s_Differences___contains__) (defBody s_Differences___contains__) (defScope s_Differences___contains__) .none kV_M__contains__ dc_M__contains__ pm_M__contains__ an_M__contains__ cd_M__contains__ ct_M__contains__), sl_M__contains__⟩) (c_M__contains__ : PySem.W.codeIn K cd_M__contains__ "Differences.__contains__" = true) (k_M__contains__ : PySem.W.keepIn K (.ref f_M__contains__) = true)
    (i_M__contains__ : PySem.W.isFn K (.ref f_M__contains__) = true)
    (a_M__getitem__ : PySem.W.findIn K (.ref C) "__getitem__" = some (some (.ref f_M__getitem__))) (l_M__getitem__ : K.lookup f_M__getitem__ = some ⟨oc_M__getitem__, od_M__getitem__, .func (PySem.W.fnOf "__getitem__" "Differences.__getitem__" (defArgs s_Differences___getitem__) (defBody s_Differences___getitem__) (defScope s_Differences___getitem__) .none kV_M__getitem__ dc_M__getitem__ pm_M__getitem__ an_M__getitem__ cd_M__getitem__ ct_M__getitem__), sl_M__getitem__⟩) (c_M__getitem__ : PySem.W.codeIn K cd_M__getitem__ "Differences.__getitem__" = true) (k_M__getitem__ : PySem.W.keepIn K (.ref f_M__getitem__) = true)
    (i_M__getitem__ : PySem.W.isFn K (.ref f_M__getitem__) = true)
    (a_M__iter__ : PySem.W.findIn K (.ref C) "__iter__" = some (some (.ref f_M__iter__))) (l_M__iter__ : K.lookup f_M__iter__ = some ⟨oc_M__iter__, od_M__iter__, .func (PySem.W.fnOf "__iter__" "Differences.__iter__" (defArgs s_Differences___iter__) (defBody s_Differences___iter__) (defScope s_Differences___iter__) .none kV_M__iter__ dc_M__iter__ pm_M__iter__ an_M__iter__ cd_M__iter__ ct_M__iter__), sl_M__iter__⟩) (c_M__iter__ : PySem.W.codeIn K cd_M__iter__ "Differences.__iter__" = true) (k_M__iter__ : PySem.W.keepIn K (.ref f_M__iter__) = true)
    (i_M__iter__ : PySem.W.isFn K (.ref f_M__iter__) = true)
    (a_M__add__ : PySem.W.findIn K (.ref C) "__add__" = some (some (.ref f_M__add__))) (l_M__add__ : K.lookup f_M__add__ = some ⟨oc_M__add__, od_M__add__, .func (PySem.W.fnOf "__add__" "Differences.__add__" (defArgs s_Differences___add__) (defBody s_Differences___add__) (defScope s_Differences___add__) .none kV_M__add__ dc_M__add__ pm_M__add__ an_M__add__ cd_M__add__ ct_M__add__), sl_M__add__⟩) (c_M__add__ : PySem.W.codeIn K cd_M__add__ "Differences.__add__" = true) (k_M__add__ : PySem.W.keepIn K (.ref f_M__add__) = true)
    (i_M__add__ : PySem.W.isFn K (.ref f_M__add__) = true)
    (g_get : PySem.W.fnIn K f_M__getitem__ = true)
    (a__least_sums : PySem.W.nsIn K mainGlobals "_least_sums" = some (some (.ref f__least_sums))) (l__least_sums : K.lookup f__least_sums = some ⟨oc__least_sums, od__least_sums, .func (PySem.W.fnOf "_least_sums" "_least_sums" (defArgs s__least_sums) (defBody s__least_sums) (defScope s__least_sums) .none kV__least_sums dc__least_sums pm__least_sums an__least_sums cd__least_sums ct__least_sums), sl__least_sums⟩) (c__least_sums : PySem.W.codeIn K cd__least_sums "_least_sums" = true) (k__least_sums : PySem.W.keepIn K (.ref f__least_sums) = true)
    (a__normal_rows : PySem.W.nsIn K mainGlobals "_normal_rows" = some (some (.ref f__normal_rows))) (l__normal_rows : K.lookup f__normal_rows = some ⟨oc__normal_rows, od__normal_rows, .func (PySem.W.fnOf "_normal_rows" "_normal_rows" (defArgs s__normal_rows) (defBody s__normal_rows) (defScope s__normal_rows) .none kV__normal_rows dc__normal_rows pm__normal_rows an__normal_rows cd__normal_rows ct__normal_rows), sl__normal_rows⟩) (c__normal_rows : PySem.W.codeIn K cd__normal_rows "_normal_rows" = true) (k__normal_rows : PySem.W.keepIn K (.ref f__normal_rows) = true)
    (a__law_source : PySem.W.nsIn K mainGlobals "_law_source" = some (some (.ref f__law_source))) (l__law_source : K.lookup f__law_source = some ⟨oc__law_source, od__law_source, .func (PySem.W.fnOf "_law_source" "_law_source" (defArgs s__law_source) (defBody s__law_source) (defScope s__law_source) .none kV__law_source dc__law_source pm__law_source an__law_source cd__law_source ct__law_source), sl__law_source⟩) (c__law_source : PySem.W.codeIn K cd__law_source "_law_source" = true) (k__law_source : PySem.W.keepIn K (.ref f__law_source) = true)
    (a__law_draw : PySem.W.nsIn K mainGlobals "_law_draw" = some (some (.ref f__law_draw))) (l__law_draw : K.lookup f__law_draw = some ⟨oc__law_draw, od__law_draw, .func (PySem.W.fnOf "_law_draw" "_law_draw" (defArgs s__law_draw) (defBody s__law_draw) (defScope s__law_draw) .none kV__law_draw dc__law_draw pm__law_draw an__law_draw cd__law_draw ct__law_draw), sl__law_draw⟩) (c__law_draw : PySem.W.codeIn K cd__law_draw "_law_draw" = true) (k__law_draw : PySem.W.keepIn K (.ref f__law_draw) = true)
    (a__law_some : PySem.W.nsIn K mainGlobals "_law_some" = some (some (.ref f__law_some))) (l__law_some : K.lookup f__law_some = some ⟨oc__law_some, od__law_some, .func (PySem.W.fnOf "_law_some" "_law_some" (defArgs s__law_some) (defBody s__law_some) (defScope s__law_some) .none kV__law_some dc__law_some pm__law_some an__law_some cd__law_some ct__law_some), sl__law_some⟩) (c__law_some : PySem.W.codeIn K cd__law_some "_law_some" = true) (k__law_some : PySem.W.keepIn K (.ref f__law_some) = true)
    (a__law_bound : PySem.W.nsIn K mainGlobals "_law_bound" = some (some (.ref f__law_bound))) (l__law_bound : K.lookup f__law_bound = some ⟨oc__law_bound, od__law_bound, .func (PySem.W.fnOf "_law_bound" "_law_bound" (defArgs s__law_bound) (defBody s__law_bound) (defScope s__law_bound) .none kV__law_bound dc__law_bound pm__law_bound an__law_bound cd__law_bound ct__law_bound), sl__law_bound⟩) (c__law_bound : PySem.W.codeIn K cd__law_bound "_law_bound" = true) (k__law_bound : PySem.W.keepIn K (.ref f__law_bound) = true)
    (a__law_constraint : PySem.W.nsIn K mainGlobals "_law_constraint" = some (some (.ref f__law_constraint))) (l__law_constraint : K.lookup f__law_constraint = some ⟨oc__law_constraint, od__law_constraint, .func (PySem.W.fnOf "_law_constraint" "_law_constraint" (defArgs s__law_constraint) (defBody s__law_constraint) (defScope s__law_constraint) .none kV__law_constraint dc__law_constraint pm__law_constraint an__law_constraint cd__law_constraint ct__law_constraint), sl__law_constraint⟩) (c__law_constraint : PySem.W.codeIn K cd__law_constraint "_law_constraint" = true) (k__law_constraint : PySem.W.keepIn K (.ref f__law_constraint) = true)
    (a__law_theory : PySem.W.nsIn K mainGlobals "_law_theory" = some (some (.ref f__law_theory))) (l__law_theory : K.lookup f__law_theory = some ⟨oc__law_theory, od__law_theory, .func (PySem.W.fnOf "_law_theory" "_law_theory" (defArgs s__law_theory) (defBody s__law_theory) (defScope s__law_theory) .none kV__law_theory dc__law_theory pm__law_theory an__law_theory cd__law_theory ct__law_theory), sl__law_theory⟩) (c__law_theory : PySem.W.codeIn K cd__law_theory "_law_theory" = true) (k__law_theory : PySem.W.keepIn K (.ref f__law_theory) = true)
    (a__law_sums : PySem.W.nsIn K mainGlobals "_law_sums" = some (some (.ref f__law_sums))) (l__law_sums : K.lookup f__law_sums = some ⟨oc__law_sums, od__law_sums, .func (PySem.W.fnOf "_law_sums" "_law_sums" (defArgs s__law_sums) (defBody s__law_sums) (defScope s__law_sums) .none kV__law_sums dc__law_sums pm__law_sums an__law_sums cd__law_sums ct__law_sums), sl__law_sums⟩) (c__law_sums : PySem.W.codeIn K cd__law_sums "_law_sums" = true) (k__law_sums : PySem.W.keepIn K (.ref f__law_sums) = true)
    (a__law_satisfiable : PySem.W.nsIn K mainGlobals "_law_satisfiable" = some (some (.ref f__law_satisfiable))) (l__law_satisfiable : K.lookup f__law_satisfiable = some ⟨oc__law_satisfiable, od__law_satisfiable, .func (PySem.W.fnOf "_law_satisfiable" "_law_satisfiable" (defArgs s__law_satisfiable) (defBody s__law_satisfiable) (defScope s__law_satisfiable) .none kV__law_satisfiable dc__law_satisfiable pm__law_satisfiable an__law_satisfiable cd__law_satisfiable ct__law_satisfiable), sl__law_satisfiable⟩) (c__law_satisfiable : PySem.W.codeIn K cd__law_satisfiable "_law_satisfiable" = true) (k__law_satisfiable : PySem.W.keepIn K (.ref f__law_satisfiable) = true)
    (a__law_is_int : PySem.W.nsIn K mainGlobals "_law_is_int" = some (some (.ref f__law_is_int))) (l__law_is_int : K.lookup f__law_is_int = some ⟨oc__law_is_int, od__law_is_int, .func (PySem.W.fnOf "_law_is_int" "_law_is_int" (defArgs s__law_is_int) (defBody s__law_is_int) (defScope s__law_is_int) .none kV__law_is_int dc__law_is_int pm__law_is_int an__law_is_int cd__law_is_int ct__law_is_int), sl__law_is_int⟩) (c__law_is_int : PySem.W.codeIn K cd__law_is_int "_law_is_int" = true) (k__law_is_int : PySem.W.keepIn K (.ref f__law_is_int) = true)
    (a__law_difference_right : PySem.W.nsIn K mainGlobals "_law_difference_right" = some (some (.ref f__law_difference_right))) (l__law_difference_right : K.lookup f__law_difference_right = some ⟨oc__law_difference_right, od__law_difference_right, .func (PySem.W.fnOf "_law_difference_right" "_law_difference_right" (defArgs s__law_difference_right) (defBody s__law_difference_right) (defScope s__law_difference_right) .none kV__law_difference_right dc__law_difference_right pm__law_difference_right an__law_difference_right cd__law_difference_right ct__law_difference_right), sl__law_difference_right⟩) (c__law_difference_right : PySem.W.codeIn K cd__law_difference_right "_law_difference_right" = true) (k__law_difference_right : PySem.W.keepIn K (.ref f__law_difference_right) = true)
    (a__law_follows_right : PySem.W.nsIn K mainGlobals "_law_follows_right" = some (some (.ref f__law_follows_right))) (l__law_follows_right : K.lookup f__law_follows_right = some ⟨oc__law_follows_right, od__law_follows_right, .func (PySem.W.fnOf "_law_follows_right" "_law_follows_right" (defArgs s__law_follows_right) (defBody s__law_follows_right) (defScope s__law_follows_right) .none kV__law_follows_right dc__law_follows_right pm__law_follows_right an__law_follows_right cd__law_follows_right ct__law_follows_right), sl__law_follows_right⟩) (c__law_follows_right : PySem.W.codeIn K cd__law_follows_right "_law_follows_right" = true) (k__law_follows_right : PySem.W.keepIn K (.ref f__law_follows_right) = true)
    (a__law_object_right : PySem.W.nsIn K mainGlobals "_law_object_right" = some (some (.ref f__law_object_right))) (l__law_object_right : K.lookup f__law_object_right = some ⟨oc__law_object_right, od__law_object_right, .func (PySem.W.fnOf "_law_object_right" "_law_object_right" (defArgs s__law_object_right) (defBody s__law_object_right) (defScope s__law_object_right) .none kV__law_object_right dc__law_object_right pm__law_object_right an__law_object_right cd__law_object_right ct__law_object_right), sl__law_object_right⟩) (c__law_object_right : PySem.W.codeIn K cd__law_object_right "_law_object_right" = true) (k__law_object_right : PySem.W.keepIn K (.ref f__law_object_right) = true)
    (a_law : PySem.W.nsIn K mainGlobals "law" = some (some (.ref f_law))) (l_law : K.lookup f_law = some ⟨oc_law, od_law, .func (PySem.W.fnOf "law" "law" (defArgs s_law) (defBody s_law) (defScope s_law) .none kV_law dc_law pm_law an_law cd_law ct_law), sl_law⟩) (c_law : PySem.W.codeIn K cd_law "law" = true) (k_law : PySem.W.keepIn K (.ref f_law) = true)
    (z_min : PySem.W.nsIn K mainGlobals "min" = some none)
    (z_tuple : PySem.W.nsIn K mainGlobals "tuple" = some none)
    (z_sorted : PySem.W.nsIn K mainGlobals "sorted" = some none)
    (z_len : PySem.W.nsIn K mainGlobals "len" = some none)
    (z_int : PySem.W.nsIn K mainGlobals "int" = some none)
    (z_list : PySem.W.nsIn K mainGlobals "list" = some none)
    (z_range : PySem.W.nsIn K mainGlobals "range" = some none)
    (z_isinstance : PySem.W.nsIn K mainGlobals "isinstance" = some none)
    (z_bool : PySem.W.nsIn K mainGlobals "bool" = some none)
    (z_iter : PySem.W.nsIn K mainGlobals "iter" = some none)
    (z_all : PySem.W.nsIn K mainGlobals "all" = some none)
    : ∃ fd : FuncData, (∀ (s : Shared) (v : Value), BindsTo s fd ⟨[v], []⟩ [("_law_script", v)]) ∧ ∀ base : Heap, K.In base → base.Ns mainGlobals mg → FnOk l.prog w K mg base CX0 7 fa fd ["_law_script"] (spLaw K) := by
  have e := hfa.symm.trans (PySem.W.mg_of X G a_law)
  cases e
  have F_sat := fun_mk (x := "satisfiable") (qual := "Differences.satisfiable") (st := s_Differences_satisfiable) l_sat c_sat k_sat
  have b_sat := F_sat.binds (ps := ["self"]) fun _ _ _ _ _ _ us hl => match us, hl with | [_], _ => rfl
  have F_init := fun_mk (x := "__init__") (qual := "Differences.__init__") (st := s_Differences___init__) l_init c_init k_init
  have b_init := F_init.binds (ps := ["self", "theory"]) fun _ _ _ _ _ _ us hl => match us, hl with | [_, _], _ => rfl
  have F_M__len__ := fun_mk (x := "__len__") (qual := "Differences.__len__") (st := s_Differences___len__) l_M__len__ c_M__len__ k_M__len__
  have b_M__len__ := F_M__len__.binds (ps := ["self"]) fun _ _ _ _ _ _ us hl => match us, hl with | [_], _ => rfl
  have F_M__contains__ := fun_mk (x := "__contains__") (qual := "Differences.__contains__") (st := s_Differences___contains__) l_M__contains__ c_M__contains__ k_M__contains__
  have b_M__contains__ := F_M__contains__.binds (ps := ["self", "x"]) fun _ _ _ _ _ _ us hl => match us, hl with | [_, _], _ => rfl
  have F_M__getitem__ := fun_mk (x := "__getitem__") (qual := "Differences.__getitem__") (st := s_Differences___getitem__) l_M__getitem__ c_M__getitem__ k_M__getitem__
  have b_M__getitem__ := F_M__getitem__.binds (ps := ["self", "at"]) fun _ _ _ _ _ _ us hl => match us, hl with | [_, _], _ => rfl
  have F_M__iter__ := fun_mk (x := "__iter__") (qual := "Differences.__iter__") (st := s_Differences___iter__) l_M__iter__ c_M__iter__ k_M__iter__
  have b_M__iter__ := F_M__iter__.binds (ps := ["self"]) fun _ _ _ _ _ _ us hl => match us, hl with | [_], _ => rfl
  have F_M__add__ := fun_mk (x := "__add__") (qual := "Differences.__add__") (st := s_Differences___add__) l_M__add__ c_M__add__ k_M__add__
  have b_M__add__ := F_M__add__.binds (ps := ["self", "other"]) fun _ _ _ _ _ _ us hl => match us, hl with | [_, _], _ => rfl
  have F__least_sums := fun_mk (x := "_least_sums") (qual := "_least_sums") (st := s__least_sums) l__least_sums c__least_sums k__least_sums
  have b__least_sums := F__least_sums.binds (ps := ["places", "constraints"]) fun _ _ _ _ _ _ us hl => match us, hl with | [_, _], _ => rfl
  have F__normal_rows := fun_mk (x := "_normal_rows") (qual := "_normal_rows") (st := s__normal_rows) l__normal_rows c__normal_rows k__normal_rows
  have b__normal_rows := F__normal_rows.binds (ps := ["sums"]) fun _ _ _ _ _ _ us hl => match us, hl with | [_], _ => rfl
  have F__law_source := fun_mk (x := "_law_source") (qual := "_law_source") (st := s__law_source) l__law_source c__law_source k__law_source
  have b__law_source := F__law_source.binds (ps := ["_law_script", "_law_k"]) fun _ _ _ _ _ _ us hl => match us, hl with | [_, _], _ => rfl
  have F__law_draw := fun_mk (x := "_law_draw") (qual := "_law_draw") (st := s__law_draw) l__law_draw c__law_draw k__law_draw
  have b__law_draw := F__law_draw.binds (ps := ["_law_source_here", "_law_limit"]) fun _ _ _ _ _ _ us hl => match us, hl with | [_, _], _ => rfl
  have F__law_some := fun_mk (x := "_law_some") (qual := "_law_some") (st := s__law_some) l__law_some c__law_some k__law_some
  have b__law_some := F__law_some.binds (ps := ["_law_source_here", "_law_names", "_law_most"]) fun _ _ _ _ _ _ us hl => match us, hl with | [_, _, _], _ => rfl
  have F__law_bound := fun_mk (x := "_law_bound") (qual := "_law_bound") (st := s__law_bound) l__law_bound c__law_bound k__law_bound
  have b__law_bound := F__law_bound.binds (ps := ["_law_source_here"]) fun _ _ _ _ _ _ us hl => match us, hl with | [_], _ => rfl
  have F__law_constraint := fun_mk (x := "_law_constraint") (qual := "_law_constraint") (st := s__law_constraint) l__law_constraint c__law_constraint k__law_constraint
  have b__law_constraint := F__law_constraint.binds (ps := ["_law_source_here", "_law_names"]) fun _ _ _ _ _ _ us hl => match us, hl with | [_, _], _ => rfl
  have F__law_theory := fun_mk (x := "_law_theory") (qual := "_law_theory") (st := s__law_theory) l__law_theory c__law_theory k__law_theory
  have b__law_theory := F__law_theory.binds (ps := ["_law_source_here"]) fun _ _ _ _ _ _ us hl => match us, hl with | [_], _ => rfl
  have F__law_sums := fun_mk (x := "_law_sums") (qual := "_law_sums") (st := s__law_sums) l__law_sums c__law_sums k__law_sums
  have b__law_sums := F__law_sums.binds (ps := ["_law_theory_here"]) fun _ _ _ _ _ _ us hl => match us, hl with | [_], _ => rfl
  have F__law_satisfiable := fun_mk (x := "_law_satisfiable") (qual := "_law_satisfiable") (st := s__law_satisfiable) l__law_satisfiable c__law_satisfiable k__law_satisfiable
  have b__law_satisfiable := F__law_satisfiable.binds (ps := ["_law_theory_here", "_law_sums_here"]) fun _ _ _ _ _ _ us hl => match us, hl with | [_, _], _ => rfl
  have F__law_is_int := fun_mk (x := "_law_is_int") (qual := "_law_is_int") (st := s__law_is_int) l__law_is_int c__law_is_int k__law_is_int
  have b__law_is_int := F__law_is_int.binds (ps := ["_law_value"]) fun _ _ _ _ _ _ us hl => match us, hl with | [_], _ => rfl
  have F__law_difference_right := fun_mk (x := "_law_difference_right") (qual := "_law_difference_right") (st := s__law_difference_right) l__law_difference_right c__law_difference_right k__law_difference_right
  have b__law_difference_right := F__law_difference_right.binds (ps := ["_law_actual", "_law_sums_here", "_law_there", "_law_x", "_law_y"]) fun _ _ _ _ _ _ us hl => match us, hl with | [_, _, _, _, _], _ => rfl
  have F__law_follows_right := fun_mk (x := "_law_follows_right") (qual := "_law_follows_right") (st := s__law_follows_right) l__law_follows_right c__law_follows_right k__law_follows_right
  have b__law_follows_right := F__law_follows_right.binds (ps := ["_law_actual", "_law_sums_here", "_law_there", "_law_x", "_law_y"]) fun _ _ _ _ _ _ us hl => match us, hl with | [_, _, _, _, _], _ => rfl
  have F__law_object_right := fun_mk (x := "_law_object_right") (qual := "_law_object_right") (st := s__law_object_right) l__law_object_right c__law_object_right k__law_object_right
  have b__law_object_right := F__law_object_right.binds (ps := ["_law_theory_here", "_law_actual"]) fun _ _ _ _ _ _ us hl => match us, hl with | [_, _], _ => rfl
  have F_law := fun_mk (x := "law") (qual := "law") (st := s_law) l_law c_law k_law
  have m_min := PySem.W.mg_none_of X G z_min
  have m_tuple := PySem.W.mg_none_of X G z_tuple
  have m_sorted := PySem.W.mg_none_of X G z_sorted
  have m_len := PySem.W.mg_none_of X G z_len
  have m_int := PySem.W.mg_none_of X G z_int
  have m_list := PySem.W.mg_none_of X G z_list
  have m_range := PySem.W.mg_none_of X G z_range
  have m_isinstance := PySem.W.mg_none_of X G z_isinstance
  have m_bool := PySem.W.mg_none_of X G z_bool
  have m_iter := PySem.W.mg_none_of X G z_iter
  have m_all := PySem.W.mg_none_of X G z_all
  have cf : K16.CF K C := ⟨⟨pg, hd, po, sa⟩, n1, n2, n3, n4⟩
  have er : ErN K mg CF := ⟨PySem.W.mg_of X G aF, xF, kF, bF, tF⟩
  have es : ErS K mg CF SE := ⟨kit_exm bF clF tF ssF, ⟨gaF, ggF, bF, hdF, gcF, sp_, tk_, moF⟩, kit_t clS tS suS, PySem.W.mg_of X G aS⟩
  have e_add : (PySem.dunder "add" : Str) = ("__add__" : Str) := by decide +kernel
  have e_radd : (dunderR "add" : Str) = ("__radd__" : Str) := by decide +kernel
  have B___add__ : BinF K C .Add "tuple" := ⟨hf1, ⟨_, (by show PySem.W.findIn K (.ref C) (dunderR "add") = _; rw [e_radd]; exact i3), .inl rfl⟩, ⟨i_fo, by show PySem.W.findIn K (.type "tuple") (PySem.dunder "add") = _; rw [e_add]; exact i1⟩, ⟨i_ro, by show PySem.W.findIn K (.type "tuple") (dunderR "add") = _; rw [e_radd]; exact i2⟩, hsb2⟩
  refine ⟨PySem.W.fnOf "law" "law" (defArgs s_law) (defBody s_law) (defScope s_law) .none kV_law dc_law pm_law an_law cd_law ct_law, fun s v => .of_eq rfl, fun base _ _ => ?_⟩
  have C__least_sums : Cal l.prog w K mg base "_least_sums" 1 ["places", "constraints"] (spSums K) := ⟨_, _, ok_least_sums (F := F__least_sums) (m_min := m_min), PySem.W.mg_of X G a__least_sums, F__least_sums.kp, b__least_sums⟩
  have C__normal_rows : Cal l.prog w K mg base "_normal_rows" 1 ["sums"] (spRows K) := ⟨_, _, ok_normal_rows (F := F__normal_rows) (m_tuple := m_tuple) (m_sorted := m_sorted), PySem.W.mg_of X G a__normal_rows, F__normal_rows.kp, b__normal_rows⟩
  have K_D : MkD l.prog w K mg base C := ⟨_, _, [], ⟨mk, a_init, fi_init, kc⟩, ok_init (F := F_init) (cf := cf) (m_all := m_all) (C__least_sums := C__least_sums) (C__normal_rows := C__normal_rows), PySem.W.mg_of X G aC, b_init, .nil⟩
  have P_satisfiable : PropC l.prog w K mg base C "satisfiable" 1 (spSat K C) := ⟨cf.cl, p_sat, f_sat, _, ⟨ap_, sp2, tk2, rs_sat, rc2⟩, ok_sat (F := F_sat) (cf := cf), b_sat⟩
  have O___len__ : OwM l.prog w K mg base CX0 C "__len__" 1 ["self"] (spLen K C) := ⟨_, _, ok_len (F := F_M__len__) (cf := cf) (m_len := m_len), a_M__len__, i_M__len__, k_M__len__, b_M__len__⟩
  have O___contains__ : OwM l.prog w K mg base CX0 C "__contains__" 1 ["self", "x"] (spCont K C) := ⟨_, _, ok_cont (F := F_M__contains__) (cf := cf), a_M__contains__, i_M__contains__, k_M__contains__, b_M__contains__⟩
  have O___getitem__ : OwM l.prog w K mg base (L2.CX l.prog w) C "__getitem__" 1 ["self", "at"] (spGet K C CF) := ⟨_, _, ok_get (F := F_M__getitem__) (cf := cf) (er := er), a_M__getitem__, i_M__getitem__, k_M__getitem__, b_M__getitem__⟩
  have I_Differences : ItM l.prog w K mg base C "_rows" 1 := it_mk cf F_M__iter__ m_iter a_M__iter__ i_M__iter__ b_M__iter__
  have O___add__ : OwM l.prog w K mg base CX0 C (PySem.dunder "add") 4 ["self", "other"] (spAdd K C) := ⟨_, _, ok_add (F := F_M__add__) (cf := cf) (K_D := K_D), (by rw [e_add]; exact a_M__add__), i_M__add__, k_M__add__, b_M__add__⟩
  have fi_get : ∀ f, PySem.W.findIn K (.ref C) "__getitem__" = some (some (.ref f)) → PySem.W.fnIn K f = true := fun f hf => by
    have e := hf.symm.trans a_M__getitem__
    cases e
    exact g_get
  have C__law_source : Cal l.prog w K mg base "_law_source" 1 ["_law_script", "_law_k"] (spSource K) := ⟨_, _, ok_source (F := F__law_source) (m_len := m_len) (m_int := m_int), PySem.W.mg_of X G a__law_source, F__law_source.kp, b__law_source⟩
  have C__law_draw : Cal l.prog w K mg base "_law_draw" 1 ["_law_source_here", "_law_limit"] spDraw := ⟨_, _, ok_draw (F := F__law_draw) (m_int := m_int), PySem.W.mg_of X G a__law_draw, F__law_draw.kp, b__law_draw⟩
  have C__law_some : Cal l.prog w K mg base "_law_some" 2 ["_law_source_here", "_law_names", "_law_most"] (spSome K) := ⟨_, _, ok_some (F := F__law_some) (m_len := m_len) (C__law_draw := C__law_draw), PySem.W.mg_of X G a__law_some, F__law_some.kp, b__law_some⟩
  have C__law_bound : Cal l.prog w K mg base "_law_bound" 2 ["_law_source_here"] spBound := ⟨_, _, ok_bound (F := F__law_bound) (C__law_draw := C__law_draw), PySem.W.mg_of X G a__law_bound, F__law_bound.kp, b__law_bound⟩
  have C__law_constraint : Cal l.prog w K mg base "_law_constraint" 3 ["_law_source_here", "_law_names"] (spCtr K) := ⟨_, _, ok_constraint (F := F__law_constraint) (m_list := m_list) (m_len := m_len) (C__law_draw := C__law_draw) (C__law_bound := C__law_bound), PySem.W.mg_of X G a__law_constraint, F__law_constraint.kp, b__law_constraint⟩
  have C__law_theory : Cal l.prog w K mg base "_law_theory" 4 ["_law_source_here"] (spTheory K) := ⟨_, _, ok_theory (F := F__law_theory) (m_range := m_range) (m_tuple := m_tuple) (C__law_draw := C__law_draw) (C__law_some := C__law_some) (C__law_constraint := C__law_constraint), PySem.W.mg_of X G a__law_theory, F__law_theory.kp, b__law_theory⟩
  have C__law_sums : Cal l.prog w K mg base "_law_sums" 1 ["_law_theory_here"] (spLSums K) := ⟨_, _, ok_law_sums (F := F__law_sums) (m_list := m_list), PySem.W.mg_of X G a__law_sums, F__law_sums.kp, b__law_sums⟩
  have C__law_satisfiable : Cal l.prog w K mg base "_law_satisfiable" 1 ["_law_theory_here", "_law_sums_here"] (spLSat K) := ⟨_, _, ok_lsat (F := F__law_satisfiable) (m_list := m_list) (m_len := m_len), PySem.W.mg_of X G a__law_satisfiable, F__law_satisfiable.kp, b__law_satisfiable⟩
  have C__law_is_int : Cal l.prog w K mg base "_law_is_int" 1 ["_law_value"] spIsInt := ⟨_, _, ok_is_int (F := F__law_is_int) (m_isinstance := m_isinstance) (m_int := m_int) (m_bool := m_bool), PySem.W.mg_of X G a__law_is_int, F__law_is_int.kp, b__law_is_int⟩
  have C__law_difference_right : Cal l.prog w K mg base "_law_difference_right" 4 ["_law_actual", "_law_sums_here", "_law_there", "_law_x", "_law_y"] (spDif K C) := ⟨_, _, ok_diff (F := F__law_difference_right) (er := er) (es := es) (m_isinstance := m_isinstance) (O___getitem__ := O___getitem__) (fi_get := fi_get) (C__law_is_int := C__law_is_int), PySem.W.mg_of X G a__law_difference_right, F__law_difference_right.kp, b__law_difference_right⟩
  have C__law_follows_right : Cal l.prog w K mg base "_law_follows_right" 4 ["_law_actual", "_law_sums_here", "_law_there", "_law_x", "_law_y"] (spFol K C) := ⟨_, _, ok_follows (F := F__law_follows_right) (O___contains__ := O___contains__), PySem.W.mg_of X G a__law_follows_right, F__law_follows_right.kp, b__law_follows_right⟩
  have C__law_object_right : Cal l.prog w K mg base "_law_object_right" 6 ["_law_theory_here", "_law_actual"] (spObj K C) := ⟨_, _, ok_object (F := F__law_object_right) (m_isinstance := m_isinstance) (m_bool := m_bool) (m_list := m_list) (m_len := m_len) (m_sorted := m_sorted) (cf := cf) (P_satisfiable := P_satisfiable) (I_Differences := I_Differences) (O___len__ := O___len__) (C__law_sums := C__law_sums) (C__law_satisfiable := C__law_satisfiable) (C__law_difference_right := C__law_difference_right) (C__law_follows_right := C__law_follows_right), PySem.W.mg_of X G a__law_object_right, F__law_object_right.kp, b__law_object_right⟩
  exact ok_law F_law (m_len := m_len) (m_list := m_list) (m_range := m_range) (P_satisfiable := P_satisfiable) (O___add__ := O___add__) (B___add__ := B___add__) (K_D := K_D) (C__law_source := C__law_source) (C__law_draw := C__law_draw) (C__law_constraint := C__law_constraint) (C__law_theory := C__law_theory) (C__law_object_right := C__law_object_right)
end K16
open PySem PySem.W PyProof.Rows
set_option maxRecDepth 100000 in
set_option maxHeartbeats 0 in
theorem PySem.Challenge.cw_shadowlinks_k16_differences_grow_holds : PySem.Challenge.rw_shadowlinks_k16_differences_grow.Holds := by
  w_on; o_law; k_head; (case hw => w_witness2)
  k_fill
  refine L2.walk_of (l := PySem.Challenge.rw_shadowlinks_k16_differences_grow) (n := 63) (k := 7) (x := "_law_script") (CX := fun _ => L2.CX0) (sp := fun w => K16.spLaw _) rfl (by decide) rfl ⟨rfl, by decide, by decide⟩ (fun w h Y => PySem.W.kIn_of Y) ?F (fun _ _ a ns hl _ hS => ⟨a, ns, rfl, hS, hl, fun _ => rfl⟩) (fun _ _ _ _ _ h => h)
  case F =>
    intro w mg fa h KX G hmg
    refine' K16.all_mk KX G hmg ?aC ?aF ?aS ?pg ?hd ?po ?sa ?mk ?kc ?n1 ?n2 ?n3 ?n4 ?hf1 ?i1 ?i2 ?i3 ?hsb2 ?xF ?kF ?bF ?tF ?clF ?clS ?tS ?ssF ?suS ?gaF ?ggF ?hdF ?gcF ?sp_ ?tk_ ?moF ?ap_ ?sp2 ?tk2 ?rc2 ?l_sat ?c_sat ?k_sat ?a_init ?l_init ?c_init ?k_init ?fi_init ?a_M__len__ ?l_M__len__ ?c_M__len__ ?k_M__len__ ?i_M__len__ ?a_M__contains__ ?l_M__contains__ ?c_M__contains__ ?k_M__contains__ ?i_M__contains__ ?a_M__getitem__ ?l_M__getitem__ ?c_M__getitem__ ?k_M__getitem__ ?i_M__getitem__ ?a_M__iter__ ?l_M__iter__ ?c_M__iter__ ?k_M__iter__ ?i_M__iter__ ?a_M__add__ ?l_M__add__ ?c_M__add__ ?k_M__add__ ?i_M__add__ ?g_get ?a__least_sums ?l__least_sums ?c__least_sums ?k__least_sums ?a__normal_rows ?l__normal_rows ?c__normal_rows ?k__normal_rows ?a__law_source ?l__law_source ?c__law_source ?k__law_source ?a__law_draw ?l__law_draw ?c__law_draw ?k__law_draw ?a__law_some ?l__law_some ?c__law_some ?k__law_some ?a__law_bound ?l__law_bound ?c__law_bound ?k__law_bound ?a__law_constraint ?l__law_constraint ?c__law_constraint ?k__law_constraint ?a__law_theory ?l__law_theory ?c__law_theory ?k__law_theory ?a__law_sums ?l__law_sums ?c__law_sums ?k__law_sums ?a__law_satisfiable ?l__law_satisfiable ?c__law_satisfiable ?k__law_satisfiable ?a__law_is_int ?l__law_is_int ?c__law_is_int ?k__law_is_int ?a__law_difference_right ?l__law_difference_right ?c__law_difference_right ?k__law_difference_right ?a__law_follows_right ?l__law_follows_right ?c__law_follows_right ?k__law_follows_right ?a__law_object_right ?l__law_object_right ?c__law_object_right ?k__law_object_right ?a_law ?l_law ?c_law ?k_law ?z_min ?z_tuple ?z_sorted ?z_len ?z_int ?z_list ?z_range ?z_isinstance ?z_bool ?z_iter ?z_all
    (case aC => k_is)
    (case aF => k_is)
    (case aS => k_is)
    (case pg => k_is)
    (case hd => k_is)
    (case po => k_is)
    (case sa => k_is)
    (case mk => k_is)
    (case kc => k_is)
    (case n1 => k_is)
    (case n2 => k_is)
    (case n3 => k_is)
    (case n4 => k_is)
    (case hf1 => k_is)
    (case i1 => k_is)
    (case i2 => k_is)
    (case i3 => k_is)
    (case hsb2 => k_is)
    (case xF => k_exc)
    (case kF => k_is)
    (case bF => k_is)
    (case tF => k_is)
    (case clF => k_is)
    (case clS => k_is)
    (case tS => k_is)
    (case ssF => k_is)
    (case suS => k_is)
    (case gaF => k_is)
    (case ggF => k_is)
    (case hdF => k_is)
    (case gcF => k_is)
    (case sp_ => k_is)
    (case tk_ => k_is)
    (case moF => k_is)
    (case ap_ => k_is)
    (case sp2 => k_is)
    (case tk2 => k_is)
    (case rc2 => k_is)
    (case l_sat => k_is)
    (case c_sat => k_is)
    (case k_sat => k_is)
    (case a_init => k_is)
    (case l_init => k_is)
    (case c_init => k_is)
    (case k_init => k_is)
    (case fi_init => k_is)
    (case a_M__len__ => k_is)
    (case l_M__len__ => k_is)
    (case c_M__len__ => k_is)
    (case k_M__len__ => k_is)
    (case i_M__len__ => k_is)
    (case a_M__contains__ => k_is)
    (case l_M__contains__ => k_is)
    (case c_M__contains__ => k_is)
    (case k_M__contains__ => k_is)
    (case i_M__contains__ => k_is)
    (case a_M__getitem__ => k_is)
    (case l_M__getitem__ => k_is)
    (case c_M__getitem__ => k_is)
    (case k_M__getitem__ => k_is)
    (case i_M__getitem__ => k_is)
    (case a_M__iter__ => k_is)
    (case l_M__iter__ => k_is)
    (case c_M__iter__ => k_is)
    (case k_M__iter__ => k_is)
    (case i_M__iter__ => k_is)
    (case a_M__add__ => k_is)
    (case l_M__add__ => k_is)
    (case c_M__add__ => k_is)
    (case k_M__add__ => k_is)
    (case i_M__add__ => k_is)
    (case g_get => k_is)
    (case a__least_sums => k_is)
    (case l__least_sums => k_is)
    (case c__least_sums => k_is)
    (case k__least_sums => k_is)
    (case a__normal_rows => k_is)
    (case l__normal_rows => k_is)
    (case c__normal_rows => k_is)
    (case k__normal_rows => k_is)
    (case a__law_source => k_is)
    (case l__law_source => k_is)
    (case c__law_source => k_is)
    (case k__law_source => k_is)
    (case a__law_draw => k_is)
    (case l__law_draw => k_is)
    (case c__law_draw => k_is)
    (case k__law_draw => k_is)
    (case a__law_some => k_is)
    (case l__law_some => k_is)
    (case c__law_some => k_is)
    (case k__law_some => k_is)
    (case a__law_bound => k_is)
    (case l__law_bound => k_is)
    (case c__law_bound => k_is)
    (case k__law_bound => k_is)
    (case a__law_constraint => k_is)
    (case l__law_constraint => k_is)
    (case c__law_constraint => k_is)
    (case k__law_constraint => k_is)
    (case a__law_theory => k_is)
    (case l__law_theory => k_is)
    (case c__law_theory => k_is)
    (case k__law_theory => k_is)
    (case a__law_sums => k_is)
    (case l__law_sums => k_is)
    (case c__law_sums => k_is)
    (case k__law_sums => k_is)
    (case a__law_satisfiable => k_is)
    (case l__law_satisfiable => k_is)
    (case c__law_satisfiable => k_is)
    (case k__law_satisfiable => k_is)
    (case a__law_is_int => k_is)
    (case l__law_is_int => k_is)
    (case c__law_is_int => k_is)
    (case k__law_is_int => k_is)
    (case a__law_difference_right => k_is)
    (case l__law_difference_right => k_is)
    (case c__law_difference_right => k_is)
    (case k__law_difference_right => k_is)
    (case a__law_follows_right => k_is)
    (case l__law_follows_right => k_is)
    (case c__law_follows_right => k_is)
    (case k__law_follows_right => k_is)
    (case a__law_object_right => k_is)
    (case l__law_object_right => k_is)
    (case c__law_object_right => k_is)
    (case k__law_object_right => k_is)
    (case a_law => k_is)
    (case l_law => k_is)
    (case c_law => k_is)
    (case k_law => k_is)
    (case z_min => k_is)
    (case z_tuple => k_is)
    (case z_sorted => k_is)
    (case z_len => k_is)
    (case z_int => k_is)
    (case z_list => k_is)
    (case z_range => k_is)
    (case z_isinstance => k_is)
    (case z_bool => k_is)
    (case z_iter => k_is)
    (case z_all => k_is)
#print axioms PySem.Challenge.cw_shadowlinks_k16_differences_grow_holds
